"""The examples of the document, word for word, and those of README.md."""

import doctest
import pathlib
import unittest

ROOT = pathlib.Path(__file__).resolve().parent.parent
DOCUMENT = ROOT.parent / "shared" / "DOC.md"

WEBS = """\
>>> from unnoted.webs import bridges, is_tree, pieces, round_bounds
>>> pieces(5, [(1, 3), (2, 5)]), is_tree(3, [(1, 2), (2, 3)]), round_bounds(4, [(1, 2), (1, 3), (2, 3)])
([[1, 3], [2, 5], [4]], True, (3, 3))
>>> bridges(4, [(1, 2), (1, 3), (2, 3), (3, 4)])
[(3, 4)]
"""

LOGS = """\
>>> from unnoted.logs import all_ends, count_kinds, count_of_kind, ends, faces, met, orders, turns, ways
>>> log = [(2, 3), (1, 2), (3, 4)]
>>> ends(4, log), ways(4, log), orders(4, log)
([2, 4, 1, 3], [[1, 2], [2, 3, 4], [3, 2, 1], [4, 3]], [[2], [3, 1], [2, 4], [3]])
>>> faces(4, log), met(4, log), turns(4, log)
([[(1, 2), (2, 3), (3, 4), (4, 3), (3, 2), (2, 1)]], [(2, 3), (1, 3), (2, 4)], [1, 2, 2])
>>> faces(3, [(1, 2), (2, 3), (1, 3)])
[[(1, 2), (2, 3), (3, 1)], [(2, 1), (1, 3), (3, 2)]]
>>> count_kinds(3, [(1, 2), (1, 3), (2, 3)]), count_of_kind(4, log), all_ends(3, [(1, 2), (2, 3)])
(6, 2, [[2, 3, 1], [3, 1, 2]])
"""

ARRANGEMENTS = """\
>>> from unnoted.arrangements import Arrangement
>>> one, two = (Arrangement([2, 3, 1, 4]), Arrangement.after(4, [(1, 2), (3, 4)]))
>>> one.rounds, (one * two).ends, (~one).ends, (one ** 4).ends, (one ^ two).ends
([[1, 2, 3], [4]], [1, 4, 2, 3], [3, 1, 2, 4], [2, 3, 1, 4], [4, 1, 3, 2])
>>> abs(one), one[2], one(['a', 'b', 'c', 'd'])
(2, 3, ['c', 'a', 'b', 'd'])
"""

REACH = """\
>>> from unnoted.reach import can_end
>>> can_end(4, [(1, 2), (1, 3), (2, 3), (3, 4)], 1, 1), can_end(4, [(1, 2), (1, 3), (2, 3), (3, 4)], 4, 4)
(True, False)
"""

# The third example is one line in the document.
SPLITS = """\
>>> from unnoted.splits import alike_webs, are_alike, bundles, count_alike, is_within, splits, web_with
>>> splits(5, [(1, 2), (2, 3), (3, 4), (4, 5)]), bundles(5, [(1, 2), (2, 3), (3, 4), (4, 5)])
([(3, 4, 5), (4, 5)], [(2, [1]), (3, []), (4, [5])])
>>> are_alike(4, [(1, 2), (2, 3), (3, 4)], [(1, 2), (1, 3), (3, 4)]), \
is_within(4, [(1, 2), (2, 3), (3, 4)], [(1, 2), (1, 3), (1, 4)]), \
is_within(4, [(1, 2), (1, 3), (1, 4)], [(1, 2), (2, 3), (3, 4)])
(True, True, False)
>>> count_alike(4, [(1, 2), (2, 3), (3, 4)]), alike_webs(3, [(1, 2), (2, 3)])
(4, [[(1, 2), (1, 3)], [(1, 2), (2, 3)], [(1, 3), (2, 3)]])
>>> web_with(6, [[1, 2], (5, 6)])
[(1, 2), (1, 3), (3, 4), (3, 5), (5, 6)]
"""

CLASSES = """\
>>> from unnoted.classes import classes, count_classes
>>> count_classes(6), classes(4)
(221, [[], [(2, 3)], [(2, 4)], [(3, 4)]])
"""

# The last example is one line in the document.
NIGHTS = """\
>>> from unnoted.nights import Nights, meetings, telling_nights, web_by_meetings
>>> nights = Nights(4, [2, 3, 4, 1])
>>> nights.count(), nights.stretches(), nights.see([2, 4, 1, 3]), nights.count(), nights.may(1, 3)
(12, [(2, 3), (3, 4)], None, 8, True)
>>> nights.busy(2), nights.busy(3), nights.trees(), nights.must(3, 2), nights.known
(None, None, [[(1, 2), (2, 3), (3, 4)]], True, [('busy', 2), ('busy', 3)])
>>> meetings(3, [(1, 2), (2, 3)], [3, 1, 2]), web_by_meetings(3, [3, 1, 2], [(1, 2), (1, 3)]), \
len(telling_nights(7, [(1, 2), (2, 3), (3, 4), (4, 5), (4, 6), (6, 7)]))
([(1, 2), (1, 3)], [(1, 2), (2, 3)], 3)
"""

RINGS = """\
>>> from unnoted.rings import aheads, count_ring_ends, ring_ends, ring_web
>>> ring_web(4), ring_ends(5, [1, 2, 4]), aheads(4, [2, 1, 4, 3]), count_ring_ends(6)
([(1, 2), (1, 4), (2, 3), (3, 4)], [2, 4, 5, 1, 3], [[1, 2], [3, 4]], 62)
"""


class ExamplesTest(unittest.TestCase):
    def run_examples(self, text, name, many):
        test = doctest.DocTestParser().get_doctest(text, {}, name, None, 0)
        said = []
        result = doctest.DocTestRunner(verbose=False).run(test, out=said.append)
        self.assertEqual("".join(said), "")
        self.assertEqual((result.failed, result.attempted), (0, many))

    def test_webs(self):
        self.run_examples(WEBS, "webs", 3)

    def test_logs(self):
        self.run_examples(LOGS, "logs", 6)

    def test_arrangements(self):
        self.run_examples(ARRANGEMENTS, "arrangements", 4)

    def test_reach(self):
        self.run_examples(REACH, "reach", 2)

    def test_splits(self):
        self.run_examples(SPLITS, "splits", 5)

    def test_classes(self):
        self.run_examples(CLASSES, "classes", 2)

    def test_nights(self):
        self.run_examples(NIGHTS, "nights", 5)

    def test_rings(self):
        self.run_examples(RINGS, "rings", 2)

    def test_readme(self):
        text = (ROOT / "README.md").read_text(encoding="utf-8").replace("```", "")
        self.run_examples(text, "README.md", text.count(">>> "))

    @unittest.skipUnless(DOCUMENT.exists(), "the document is not beside the project")
    def test_they_stand_in_the_document(self):
        text = DOCUMENT.read_text(encoding="utf-8")
        for example in (WEBS, LOGS, ARRANGEMENTS, REACH, SPLITS, CLASSES, NIGHTS, RINGS):
            self.assertIn(example, text)


if __name__ == "__main__":
    unittest.main()
