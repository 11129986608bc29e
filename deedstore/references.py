"""References between rows: which hold, and which rows refer to values."""

from deedstore.signals import Trouble


def referring_rows(core, info, reference, values):
    """The rows of a table that refer to these values, none of them NULL, with their numbers."""
    rows = core.numbered_rows(info.word)
    return [(which, row) for which, row in rows if [row[at] for at in reference.places] == values]


def check_references(core, with_late):
    """Signal "refer" for the first reference that does not hold, late ones or not."""
    for word in core.catalogue.words("table"):
        info = core.catalogue.infos[word]
        for reference in info.references:
            if reference.late and not with_late:
                continue
            if unheld_rows(core, info, reference):
                raise Trouble("refer", (word, reference.word))


def unheld_rows(core, info, reference):
    """The numbers of the rows for which this reference does not hold, in order."""
    other = core.catalogue.infos[reference.table]
    held = {}
    for _, row in core.numbered_rows(other.word):
        held[tuple([row[at] for at in other.key_places[0]])] = True
    found = []
    for which, row in core.numbered_rows(info.word):
        values = tuple([row[at] for at in reference.places])
        if None not in values and values not in held:
            found.append(which)
    return found
