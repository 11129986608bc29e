"""Histories: tuples of deeds."""

from deedstore.deeds import straight_deeds


def straight(history):
    """The straight form of a right history: the deeds that no undo took back, and all numbers."""
    return straight_deeds(history)
