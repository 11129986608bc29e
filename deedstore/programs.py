"""Programs looked at: their faults against a store, and those that are stale."""

from deedstore.errors import BadThing
from deedstore.fits import first_word
from deedstore.forms import is_program
from deedstore.looks import first_fault


def fault(store, program):
    """The place and the first fault of a program, any value, against a store, or None."""
    if not is_program(program):
        raise BadThing("form", first_word(program, 1))
    return first_fault(store.core.catalogue, program)


def stale(store):
    """The word, place and first fault of each stale program of a store, by words."""
    catalogue = store.core.catalogue
    found = []
    for word in catalogue.words("program"):
        pair = first_fault(catalogue, catalogue.infos[word].tree)
        if pair is not None:
            found.append((word, *pair))
    return found
