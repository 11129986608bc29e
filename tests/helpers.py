"""What several tests need."""


def same(a, b):
    """Whether a and b are the same tree: True is not 1, nor False 0."""
    if isinstance(a, tuple) and isinstance(b, tuple):
        return len(a) == len(b) and all(same(x, y) for x, y in zip(a, b))
    return type(a) is type(b) and a == b


def nested(deep, inner=()):
    """inner within so many tuples."""
    tree = inner
    for _ in range(deep):
        tree = (tree,)
    return tree


NULL = ("value", None)
ONE = ("value", 1)
TEXT = ("value", "a")
TRUE = ("value", True)
