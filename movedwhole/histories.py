"""Histories of boards: written line by line, and judged by whomever they were written."""

from movedwhole.deeds import NUMBERS, fits, world_behind
from movedwhole.errors import InvalidText, NothingToUndo
from movedwhole.figures import TOLD_BOUNDS, lot_text, lots_text, read_integer, read_lot, read_lots
from movedwhole.pasts import Past
from movedwhole.scenes import Scene
from movedwhole.worldtexts import is_whole, read_row, world_told, write_world

NO_GOAL = "goal none"


def board_paper(board):
    """The text of all that the board was led through."""
    lines = [write_world(*board.start), aim_text(board.first_aim)]
    for call, aim in board.calls:
        lines.append(call_text(call))
        lines.append(aim_text(aim))
    return "\n".join(lines)


def aim_text(aim):
    """The line of a goal, or of None."""
    return NO_GOAL if aim is None else f"goal {lots_text(aim)}"


def call_text(call):
    """The line of a deed, an undo or a redo."""
    if call[0] == "piece":
        return f"piece {call[1]} {lot_text(call[2])}"
    return " ".join([str(word) for word in call])


class Reader:
    """A history that is read line by line: its world as it is told, then a goal, then calls and goals by turns."""

    def __init__(self):
        self.rows = []
        self.past = None
        self.aim = None
        self.lacks_goal = True

    def take(self, line):
        """Takes the line if it is right there; whether it is."""
        if self.past is None:
            return self.take_row(line)
        if self.lacks_goal:
            return self.take_goal(line)
        return self.take_call(line)

    def take_row(self, line):
        """Takes a line of the world."""
        row = read_row(line, self.rows)
        if row is None:
            return False
        self.rows.append(row)
        if is_whole(self.rows):
            self.past = Past(Scene(world_told(self.rows)))
        return True

    def take_goal(self, line):
        """Takes a line of a goal of the world that is reached."""
        scene = self.past.now()
        aim = read_aim(line, scene.triple[0].store_count)
        if line != NO_GOAL and not scene.is_goal(aim):
            return False
        if line == NO_GOAL and scene.some_goal is not None:
            return False
        self.aim = aim
        self.lacks_goal = False
        return True

    def take_call(self, line):
        """Takes a line of a deed, an undo or a redo that can be done."""
        self.lacks_goal = self.take_back(line) if line in ("undo", "redo") else self.take_deed(line)
        return self.lacks_goal

    def take_back(self, line):
        """Undoes, or does again; whether there is anything to."""
        try:
            if line == "undo":
                self.past.undo()
            else:
                self.past.redo()
        except NothingToUndo:
            return False
        return True

    def take_deed(self, line):
        """Does the deed of the line; whether it can be done."""
        world = self.past.now().triple
        deed = read_deed(line, world[0].store_count)
        if not fits(world, deed) or (deed[0] == "settle" and self.aim is None):
            return False
        self.past.go_on(deed, Scene(world_behind(world, self.aim, deed)))
        return True

    def is_complete(self):
        """Whether no line is lacking."""
        return not self.lacks_goal


def read_aim(line, stores):
    """The placing that the line of a goal tells; None if it tells none."""
    words = line.split(" ")
    if words[0] != "goal" or len(words) != 2:
        return None
    return read_lots(words[1], stores)


def read_deed(line, stores):
    """The deed that the line tells, whether it fits or not; None if it is of no such form."""
    words = line.split(" ")
    if words[0] == "piece" and len(words) == 3:
        parts = [read_integer(words[1], TOLD_BOUNDS), read_lot(words[2], stores)]
    elif NUMBERS.get(words[0]) == len(words) - 1:
        parts = [read_integer(word, TOLD_BOUNDS) for word in words[1:]]
    else:
        return None
    return None if None in parts else (words[0], *parts)


def read_paper(text):
    """The Reader that has taken all lines, and where the text is wrong; None if it is not."""
    reader = Reader()
    at = 0
    for line in text.split("\n"):
        if not reader.take(line):
            return reader, at
        at += len(line) + 1
    return reader, None if reader.is_complete() else len(text)


def paper_holds(text):
    """Whether the text is a history of some board, whatever goals of its worlds it tells."""
    return read_paper(text)[1] is None


def paper_end(text):
    """The world (cluster, wishes, placing) at the end of the history."""
    reader, at = read_paper(text)
    if at is not None:
        raise InvalidText(text, at)
    return reader.past.now().triple
