"""Unnoted: exchanges whose order nobody noted."""
