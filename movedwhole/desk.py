"""A desk: a world that is changed and asked line by line."""

from movedwhole.cheapest import fewest_new, fewest_placing
from movedwhole.clusters import check_number
from movedwhole.deeds import world_behind
from movedwhole.errors import InvalidLine, InvalidLot, TooMany, UnknownWord
from movedwhole.figures import TOLD_BOUNDS, lot_text, read_integer, read_list
from movedwhole.kinds import is_lot
from movedwhole.pasts import Past
from movedwhole.placings import (MOST_PIECES, WISH_BOUNDS, check_placing, check_wishes, first_breach,
                                 new_copies)
from movedwhole.rooming import lot_lacking
from movedwhole.sources import busy_lot, least_busiest

# For each first word of a line what stands behind it: integers, and lists of them.
DEEDS = {
    "store": ("integer", "integer", "integer"), "room": ("integer", "integer"), "rack": ("integer", "integer"),
    "rate": ("integer", "integer"), "wish": ("integer", "integer"), "piece": ("integer", "list"), "settle": (),
}
QUESTIONS = {"breach": (), "lacking": (), "new": (), "rounds": (), "lot": (), "where": ("integer",)}
BACKS = {"undo": (), "redo": ()}


class Desk:
    """A world (cluster, wishes, placing), and the lines of the deeds that are done and not undone."""

    def __init__(self, cluster, wishes, placing):
        check_wishes(wishes)
        check_placing(cluster, wishes, placing)
        self.past = Past((cluster, wishes, placing))
        self.show()

    def show(self):
        """Sets what the desk shows of its world and its lines."""
        self.cluster, self.wishes, self.placing = self.past.now()
        self.lines = tuple(self.past.deeds)

    def run(self, line):
        """Does one line; answers a text, which is empty for deeds, undo and redo."""
        word, told = read_words(line)
        if word in QUESTIONS:
            return answer(self.past.now(), word, told)
        if word == "undo":
            self.past.undo()
        elif word == "redo":
            self.past.redo()
        else:
            self.past.go_on(line, world_after(self.past.now(), (word, *told)))
        self.show()
        return ""


def replayed_desk(cluster, wishes, placing, lines):
    """A Desk of this world on which the lines were run."""
    desk = Desk(cluster, wishes, placing)
    for line in lines:
        desk.run(line)
    return desk


def read_words(line):
    """The first word of the line, and what the others tell."""
    words = line.split(" ")
    forms = forms_of(words[0])
    told = []
    at = len(words[0]) + 1
    for word in words[1:]:
        part = read_part(word, forms[len(told)]) if len(told) < len(forms) else None
        if part is None:
            raise InvalidLine(line, at)
        told.append(part)
        at += len(word) + 1
    if len(told) < len(forms):
        raise InvalidLine(line, len(line))
    return words[0], told


def forms_of(word):
    """What stands behind the first word of a line."""
    if word in DEEDS:
        return DEEDS[word]
    if word in QUESTIONS:
        return QUESTIONS[word]
    if word in BACKS:
        return BACKS[word]
    raise UnknownWord(word)


def read_part(word, form):
    """The integer or the tuple of integers that the word tells; None if it tells none."""
    return read_integer(word, TOLD_BOUNDS) if form == "integer" else read_list(word)


def world_after(world, deed):
    """The world behind a deed of the right form, with the errors of this."""
    cluster, wishes, placing = world
    goal = None
    if deed[0] == "wish":
        check_number(deed[1], (0, len(wishes) - 1))
        check_number(deed[2], WISH_BOUNDS)
    elif deed[0] == "piece":
        check_piece(world, deed[1], deed[2])
    elif deed[0] == "settle":
        goal = fewest_placing(cluster, wishes, placing)
    return world_behind(world, goal, deed)


def check_piece(world, wish, lot):
    """The error, if there is one, of a piece more of this wish at this lot."""
    cluster, wishes, _ = world
    check_number(wish, WISH_BOUNDS)
    if not is_lot(lot, cluster.store_count):
        raise InvalidLot(lot)
    if len(wishes) >= MOST_PIECES:
        raise TooMany("pieces")


def answer(world, word, told):
    """The answer to a question about the world."""
    cluster, wishes, placing = world
    if word == "where":
        check_number(told[0], (0, len(wishes) - 1))
        return lot_text(placing[told[0]])
    if word == "breach":
        breach = first_breach(cluster, wishes, placing)
        return "none" if breach is None else f"{breach[0]} {breach[1]}"
    if word == "lacking":
        lot = lot_lacking(cluster, wishes)
        return "none" if lot is None else shown_lot(lot)
    if word == "new":
        return str(fewest_new(cluster, wishes, placing))
    after = fewest_placing(cluster, wishes, placing)
    if word == "rounds":
        return str(least_busiest(cluster, placing, after))
    return shown_lot(busy_lot(cluster, placing, after) if new_copies(placing, after) else ())


def shown_lot(lot):
    """The lot as an answer tells it, with a sign for none of the stores."""
    return lot_text(lot) if lot else "-"
