"""What a statement of a store is asked with: BadTree for the first part that is wrong."""

from deedstore.errors import BadTree
from deedstore.kinds import Scope, tree_kind
from deedstore.values import is_word


def check_sets(catalogue, info, columns, sets):
    """BadTree if sets, any value, cannot set columns of this table or view.

    columns are the kinds of the columns that the expressions can name.
    """
    if not isinstance(sets, tuple):
        raise BadTree((0,), "form")
    passed = {}
    for k, pair in enumerate(sets):
        if not isinstance(pair, tuple) or len(pair) != 2 or not is_word(pair[0]):
            raise BadTree((0, k), "form")
        column, e = pair
        if column not in info.kinds or column in passed:
            raise BadTree((0, k), "name")
        passed[column] = True
        _check_kind(catalogue, (0, k, 1), e, columns, info.kinds[column])


def check_condition(catalogue, columns, c):
    """BadTree if c, any value, is no condition over these columns."""
    _check_kind(catalogue, (1,), c, columns, "truth")


def _check_kind(catalogue, path, e, columns, wanted):
    kind = tree_kind(path, e, Scope(columns, {}, catalogue))
    if kind is not None and kind != wanted:
        raise BadTree(path, "kind")
