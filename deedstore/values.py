"""Words, values and their kinds."""

GREATEST = 10 ** 30
LONGEST_VALUE = 40
LONGEST_WORD = 8


def is_plain(sign):
    """Whether this one character may stand in a string of a tree."""
    # Two ranges, since the one character between them stands in no string of a tree.
    return " " <= sign <= "$" or "&" <= sign <= "~"


def is_word(x):
    """Whether x is a string of one to eight letters from a to z."""
    if not isinstance(x, str) or not 1 <= len(x) <= LONGEST_WORD:
        return False
    return all(["a" <= letter <= "z" for letter in x])


def is_integer(x):
    """Whether x is an int that is not a bool."""
    return isinstance(x, int) and not isinstance(x, bool)


def is_value(x):
    """Whether x is an integer or a string within the bounds, a bool or None."""
    if x is None or isinstance(x, bool):
        return True
    if isinstance(x, str):
        return len(x) <= LONGEST_VALUE and all([is_plain(sign) for sign in x])
    return isinstance(x, int) and -GREATEST <= x <= GREATEST


def value_kind(value):
    """The kind of a value; None of NULL, which is of every kind."""
    if value is None:
        return None
    if isinstance(value, bool):
        return "truth"
    return "int" if isinstance(value, int) else "text"
