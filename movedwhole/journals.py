"""Journals: lines from which everybody can tell where each piece stands."""

from movedwhole.errors import InvalidJournal
from movedwhole.kinds import is_integer, is_within
from movedwhole.placings import is_placing


class Ledger:
    """What the lines of a journal tell, taken one by one: where the pieces stand, and the placing in force."""

    def __init__(self):
        # Ahead of the first line there are neither; behind it, up to a change,
        # the pieces stand just where it says: none is to be made or dropped.
        self.standing = None
        self.force = None

    def fits(self, cluster, line):
        """Whether the value is a line, with placings at the cluster's stores, that is right behind those taken."""
        if not isinstance(line, tuple) or not line:
            return False
        if self.standing is None:
            return is_first(cluster, line)
        due = self.due()
        if due is not None:
            return is_line(line, "dropped", 1) and line[1] == due
        if line[0] == "made":
            return is_line(line, "made", 2) and self.is_wanted(line[1], line[2])
        return self.is_change(cluster, line)

    def is_change(self, cluster, line):
        """Whether it is a line with a placing of as many pieces to change to."""
        return line[0] == "change" and len(line) == 2 and is_placing(cluster, line[1], len(self.standing))

    def is_wanted(self, piece, store):
        """Whether the placing in force has a copy of the piece at the store that is not there yet."""
        if not is_within(piece, (0, len(self.standing) - 1)):
            return False
        return store in self.force[piece] and store not in self.standing[piece]

    def is_due(self, piece):
        """Whether the piece stands at all stores that the placing in force has for it, and at a further one."""
        lot, wanted = self.standing[piece], self.force[piece]
        return len(lot) > len(wanted) and all([store in lot for store in wanted])

    def due(self):
        """The least piece of which a drop is due; None if there is none."""
        for piece in range(len(self.standing)):
            if self.is_due(piece):
                return piece
        return None

    def take(self, line):
        """Takes a line that fits."""
        word, told = line[0], line[1]
        if word == "made":
            self.standing[told] = tuple(sorted(self.standing[told] + (line[2],)))
        elif word == "dropped":
            self.standing[told] = self.force[told]
        else:
            if word == "first":
                self.standing = list(told)
            self.force = told


def is_first(cluster, line):
    """Whether the tuple is a line with a placing, of whatever number of pieces, to begin with."""
    if line[0] != "first" or len(line) != 2 or not isinstance(line[1], tuple):
        return False
    return is_placing(cluster, line[1], len(line[1]))


def is_line(line, word, many):
    """Whether the tuple is the word and so many integers."""
    return line[0] == word and len(line) == many + 1 and all([is_integer(number) for number in line[1:]])


def first_wrong_line(cluster, journal):
    """The place of the journal's first line that is wrong; None if it is right."""
    return followed(cluster, journal)[1]


def followed(cluster, journal):
    """The Ledger that has taken the lines up to the first one that is wrong, and the place of this; None if none is."""
    ledger = Ledger()
    if not isinstance(journal, tuple) or not journal:
        return ledger, 0
    for place, line in enumerate(journal):
        if not ledger.fits(cluster, line):
            return ledger, place
        ledger.take(line)
    return ledger, None


def read_ledger(cluster, journal):
    """The Ledger that has taken all lines; InvalidJournal if one is wrong."""
    ledger, place = followed(cluster, journal)
    if place is not None:
        raise InvalidJournal(place)
    return ledger


def stands_by(cluster, journal):
    """The placing that tells where each piece stands behind all lines."""
    return tuple(read_ledger(cluster, journal).standing)


def in_force(cluster, journal):
    """The placing of the last change, or of the first line if there is none."""
    return read_ledger(cluster, journal).force
