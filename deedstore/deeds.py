"""Deeds: the straight form of a history, and deeds that are done again."""

from deedstore.errors import BadThing, Known, Unknown, Used
from deedstore.fits import check_drop, check_make
from deedstore.values import is_integer, is_value, is_word, value_kind


def straight_deeds(history):
    """The deeds of a right history that no undo took back, and all deeds of numbers."""
    straight = []
    # How many deeds there were at each mark; the first mark may have any number.
    marks = []
    first = None
    for deed in history:
        if deed[0] == "mark":
            first = deed[1] if first is None else first
            marks.append(len(straight))
        elif deed[0] == "undo":
            at = deed[1] - first
            kept = marks[at]
            numbers = [other for other in straight[kept:] if other[0] == "number"]
            del straight[kept:]
            straight.extend(numbers)
            del marks[at + 1:]
        elif deed[0] == "free":
            del marks[deed[1] - first:]
        else:
            straight.append(deed)
    return tuple(straight)


def without_numbers(deeds):
    """These deeds but those of numbers."""
    return tuple([deed for deed in deeds if deed[0] != "number"])


def can_do(core, deed):
    """Whether deed, any value, is one of rows or of the catalogue that can be done now."""
    if not isinstance(deed, tuple) or not deed or not isinstance(deed[0], str):
        return False
    if deed[0] in ("put", "change", "take"):
        return _can_do_row_deed(core, deed)
    if len(deed) != 2 or not isinstance(deed[1], tuple) or not deed[1]:
        return False
    if deed[0] == "make":
        return _can_make(core, deed[1])
    return deed[0] == "drop" and _can_drop(core, deed[1])


def _can_do_row_deed(core, deed):
    if len(deed) != (3 if deed[0] == "take" else 4) or not is_word(deed[1]):
        return False
    table = core.catalogue.of_kind(deed[1], "table")
    which = deed[2]
    if table is None or not is_integer(which):
        return False
    if deed[0] == "put":
        if which < 0 or which in core.versions:
            return False
    elif which not in core.held[table.word]:
        return False
    return deed[0] == "take" or _is_row(table, deed[3])


def _is_row(table, row):
    """Whether row has a value of the right kind for each column of the table."""
    if not isinstance(row, tuple) or len(row) != len(table.columns):
        return False
    for column, value in zip(table.columns, row):
        if not is_value(value) or value_kind(value) not in (None, table.kinds[column]):
            return False
    return True


def _can_make(core, things):
    try:
        check_make(core.catalogue, things)
    except (BadThing, Known):
        return False
    return True


def _can_drop(core, words):
    try:
        check_drop(core.catalogue, words)
    except (Unknown, Used):
        return False
    return not any([core.held.get(word) for word in words])


def do_deed(core, deed):
    """Do a deed of rows or of the catalogue that can be done."""
    if deed[0] == "put":
        core.put_at(deed[1], deed[2], deed[3])
    elif deed[0] == "change":
        core.change_row(deed[1], deed[2], deed[3])
    elif deed[0] == "take":
        core.take_row(deed[1], deed[2])
    elif deed[0] == "make":
        core.make_things(deed[1])
    else:
        core.drop_things(deed[1])
