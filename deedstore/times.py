"""What a store was behind each of its commits, and which commit gave each value."""

from deedstore.cores import Core
from deedstore.deeds import straight_deeds, without_numbers


class Moment:
    """What a store was behind a commit."""

    def __init__(self, core):
        catalogue = core.catalogue
        infos = [catalogue.infos[word] for word in sorted(catalogue.infos)]
        self.infos = [info for info in infos if info.thing_kind != "sequence"]
        self.held = {table: dict(core.held[table]) for table in core.held}
        self.next_number = core.next_number


class Times:
    """The moments behind the commits of a store, and the causes of its values."""

    def __init__(self):
        self.forget_all()

    def forget_all(self):
        """Know of no commit, as behind the begin of a log."""
        # The empty store lies behind 0, unless the first commit tells otherwise.
        self.moments = {0: Moment(Core())}
        self.is_new = True
        # Of each row behind the last commit, by its number, the causes of its values.
        self.causes = {}
        self.last_rows = {}

    def note_commit(self, core, n, deeds):
        """Note what the store is behind the n-th commit, which did these deeds."""
        if self.is_new and n != 1:
            # The empty store lies behind no commit of a log that begins later.
            self.moments = {}
        self.is_new = False
        self.moments[n] = Moment(core)
        follow(self.causes, self.last_rows, deeds, n)

    def begin_anew(self, core, deeds):
        """Note the present store as what its last commit made with these deeds."""
        self.forget_all()
        self.note_commit(core, core.last_commit, deeds)

    def present_causes(self, core, which):
        """The causes of the values of a row that is there now."""
        causes = {}
        last_rows = {}
        if which in self.causes:
            causes[which] = self.causes[which]
            last_rows[which] = self.last_rows[which]
        follow(causes, last_rows, without_numbers(straight_deeds(core.deeds)), None)
        return causes[which]


def follow(causes, last_rows, deeds, n):
    """Follow these deeds of the n-th commit; of the present transaction n is None."""
    for index, deed in enumerate(deeds):
        if deed[0] in ("make", "drop"):
            continue
        which = deed[2]
        cause = None if n is None else (n, index)
        if deed[0] == "put":
            causes[which] = tuple([cause for _ in deed[3]])
            last_rows[which] = deed[3]
        elif deed[0] == "take":
            causes.pop(which, None)
            last_rows.pop(which, None)
        elif which in causes:
            old = last_rows[which]
            found = []
            for at, value in enumerate(deed[3]):
                found.append(causes[which][at] if value == old[at] else cause)
            causes[which] = tuple(found)
            last_rows[which] = deed[3]


def core_behind(core, n):
    """The state behind the n-th commit, with sequences as they are now."""
    moment = core.times.moments[n]
    found = Core()
    found.catalogue.add_infos(moment.infos)
    found.held = {table: dict(moment.held[table]) for table in moment.held}
    for table in found.held:
        for which in found.held[table]:
            found.versions[which] = found.next_version
            found.next_version += 1
    found.next_number = moment.next_number
    found.last_commit = n
    words = {info.word: True for info in moment.infos}
    for word in core.catalogue.words("sequence"):
        if word not in words:
            found.catalogue.add_infos([core.catalogue.infos[word]])
            found.upcoming[word] = core.upcoming[word]
    return found
