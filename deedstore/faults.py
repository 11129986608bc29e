"""The faults of a store: all that does not hold of its rows."""

from deedstore.evaluations import value_of
from deedstore.references import unheld_rows
from deedstore.signals import Trouble, raise_outside


def faults(store):
    """All that does not hold, late references included, as a list."""
    core = store.core
    infos = [core.catalogue.infos[word] for word in core.catalogue.words("table")]
    try:
        return [
            *_null_faults(core, infos), *_check_faults(core, infos), *_key_faults(core, infos),
            *_reference_faults(core, infos),
        ]
    except Trouble as trouble:
        raise_outside(trouble.word, trouble.details)


def _null_faults(core, infos):
    """The columns that are NULL and may not be."""
    found = []
    for info in infos:
        for at, column in enumerate(info.columns):
            if info.may_be_null[at]:
                continue
            for which, row in core.numbered_rows(info.word):
                if row[at] is None:
                    found.append(("null", info.word, column, which))
    return found


def _check_faults(core, infos):
    """The checks that are False."""
    found = []
    for info in infos:
        for word, c in info.checks:
            for which, row in core.numbered_rows(info.word):
                if value_of(core, c, info.places, row) is False:
                    found.append(("check", info.word, word, which))
    return found


def _key_faults(core, infos):
    """The keys of which two rows have the same values, for each two such rows."""
    found = []
    for info in infos:
        for k, places in enumerate(info.key_places):
            for pair in _same_rows(core.numbered_rows(info.word), places):
                found.append(("key", info.word, k, *pair))
    return found


def _same_rows(numbered, places):
    """The numbers of each two rows that have the same values, none of them NULL, in these places."""
    earlier = {}
    pairs = []
    for which, row in numbered:
        values = tuple([row[at] for at in places])
        if None in values:
            continue
        for other in earlier.get(values, []):
            pairs.append((other, which))
        earlier.setdefault(values, []).append(which)
    return sorted(pairs)


def _reference_faults(core, infos):
    """The references, late or not, that do not hold."""
    found = []
    for info in infos:
        for reference in info.references:
            for which in unheld_rows(core, info, reference):
                found.append(("reference", info.word, reference.word, which))
    return found
