import unittest

from unnoted import errors

FIELDS = {
    "InvalidCells": (ValueError, ["cells"]),
    "InvalidWeb": (ValueError, ["index"]),
    "InvalidLog": (ValueError, ["index"]),
    "InvalidEnds": (ValueError, ["index"]),
    "InvalidSides": (ValueError, ["index"]),
    "InvalidAhead": (ValueError, ["index"]),
    "InvalidValues": (ValueError, []),
    "UnequalCells": (ValueError, ["first", "second"]),
    "InvalidNumber": (ValueError, ["number"]),
    "NotTree": (ValueError, []),
    "Unfit": (ValueError, []),
    "Crossing": (ValueError, ["first", "second"]),
    "NoMiddle": (ValueError, ["indexes"]),
    "UnknownCell": (LookupError, ["cell"]),
    "NoLog": (LookupError, []),
    "NothingToUndo": (LookupError, []),
}


class ErrorsTest(unittest.TestCase):
    def test_there_are_sixteen(self):
        own = [name for name, thing in vars(errors).items() if isinstance(thing, type)]
        self.assertEqual(sorted(own), sorted(FIELDS))
        self.assertEqual(len(own), 16)

    def test_each_is_defined_in_its_file(self):
        for name in FIELDS:
            self.assertEqual(getattr(errors, name).__module__, "unnoted.errors")

    def test_bases(self):
        for name, (base, _) in FIELDS.items():
            self.assertEqual(getattr(errors, name).__bases__, (base,), name)

    def test_none_is_a_subclass_of_another_one(self):
        for name in FIELDS:
            for other in FIELDS:
                if name != other:
                    self.assertFalse(issubclass(getattr(errors, name), getattr(errors, other)), (name, other))

    def test_fields_hold_the_thing_itself(self):
        for name, (_, fields) in FIELDS.items():
            things = [["thing", field] for field in fields]
            error = getattr(errors, name)(*things)
            self.assertEqual(sorted(vars(error)), sorted(fields), name)
            for field, thing in zip(fields, things):
                self.assertIs(getattr(error, field), thing)

    def test_fields_can_be_passed_by_name(self):
        for name, (_, fields) in FIELDS.items():
            error = getattr(errors, name)(**{field: field for field in fields})
            self.assertEqual(vars(error), {field: field for field in fields})

    def test_they_can_be_raised_caught_and_shown(self):
        for name, (base, fields) in FIELDS.items():
            with self.assertRaises(base) as caught:
                raise getattr(errors, name)(*[None for _ in fields])
            self.assertIs(type(caught.exception), getattr(errors, name))
            self.assertIsInstance(str(caught.exception), str)

    def test_the_message_needs_no_text_of_a_cell(self):
        class Silent:
            def __repr__(self):
                raise RuntimeError("shown")
            __str__ = __repr__

        for kind in (errors.InvalidCells, errors.InvalidNumber, errors.UnknownCell):
            self.assertIsInstance(str(kind(Silent())), str)


if __name__ == "__main__":
    unittest.main()
