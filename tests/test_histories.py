"""Promise [26], and [1], [2] and [4] as they bear on it."""

import random
import re
import time
import unittest

from helper import (EIGHT, MovedTest, THREE, TOLD_NUMBER, WORLD_HEAD, deed_done, deed_fits, goals_of, is_world_line,
                    some_deed, some_world, spoiled_texts)
from movedwhole.boards import Board
from movedwhole.clusters import Cluster
from movedwhole.errors import InvalidText, MoveError
from movedwhole.histories import board_paper, paper_end, paper_holds
from movedwhole.worldtexts import read_world, write_world

LOT = f"{TOLD_NUMBER}(?:,{TOLD_NUMBER})*"
GOAL = re.compile(f"goal (none|-|{LOT}(?:;{LOT})*)")
CALL = re.compile(f"(store|room|rate|wish|settle)((?: {TOLD_NUMBER})*)|(piece) ({TOLD_NUMBER}) ({LOT})|(undo|redo)")
TEXT = """cluster 2 1
store 0 1 2
store 1 1 2
piece 1 0
goal 0
room 0 0
goal 1
settle
goal 1
undo
goal 1
redo
goal 1
wish 0 2
goal none
store 3 1 1
goal 1,2
piece 1 0,1
goal none"""
KNOWN = {}


def known_goals(world):
    """The goals of a small world, each world searched once."""
    cluster, wishes, placing = world
    key = (cluster.racks, cluster.rooms, cluster.rates, wishes, placing)
    if key not in KNOWN:
        KNOWN[key] = goals_of(world)
    return KNOWN[key]


def lots_told(word):
    """The placing of a word of lots."""
    return tuple(tuple(int(store) for store in lot.split(",")) for lot in word.split(";")) if word != "-" else ()


def lots_word(placing):
    """The word of a placing."""
    return ";".join(",".join(str(store) for store in lot) for lot in placing) or "-"


def deed_told(line):
    """The deed, undo or redo that a line tells; None if it is no such line."""
    found = CALL.fullmatch(line)
    if found is None:
        return None
    if found[1]:
        return (found[1], *[int(number) for number in found[2].split()])
    return (found[3], int(found[4]), lots_told(found[5])[0]) if found[3] else (found[6],)


def judged(text):
    """Where the text is wrong (None if nowhere), and the world at its end, by the words of the promise."""
    lines = text.split("\n")
    at = 0
    for place, line in enumerate(lines):
        head = WORLD_HEAD.fullmatch(lines[0])
        if head is None or place < 1 + int(head[1]) + int(head[2]):
            if not is_world_line(lines, place):
                return at, None
            at += len(line) + 1
    many = 1 + int(head[1]) + int(head[2])
    if len(lines) <= many:
        return len(text), None
    worlds, undone, aim = [read_world("\n".join(lines[:many]))], [], None
    at = len("\n".join(lines[:many])) + 1
    for place, line in enumerate(lines[many:]):
        if place % 2 == 0:
            goals = known_goals(worlds[-1])
            told = GOAL.fullmatch(line)
            aim = None if told is None or told[1] == "none" else lots_told(told[1])
            if told is None or (aim not in goals if goals else told[1] != "none"):
                return at, None
        else:
            undone = next_state(worlds, undone, aim, deed_told(line))
            if undone is None:
                return at, None
        at += len(line) + 1
    return (None, worlds[-1]) if (len(lines) - many) % 2 else (len(text), None)


def next_state(worlds, undone, aim, call):
    """Does the call on the worlds; what can be done again behind it, or None if the call cannot be done."""
    if call is None or call == ("undo",) and len(worlds) == 1 or call == ("redo",) and not undone:
        return None
    if call == ("undo",):
        return undone + [worlds.pop()]
    if call == ("redo",):
        worlds.append(undone[-1])
        return undone[:-1]
    if not deed_fits(worlds[-1], call) or call == ("settle",) and aim is None:
        return None
    worlds.append(deed_done(worlds[-1], aim, call))
    return []


class PaperTest(MovedTest):

    def assert_judged(self, text):
        """That the text is judged as by the words; whether it holds."""
        at, world = judged(text)
        self.assertIs(paper_holds(text), at is None, text)
        self.assertIs(paper_holds(text=text), at is None)
        if at is None:
            found = paper_end(text)
            self.assertEqual(found, world)
            self.assertIs(type(found), tuple)
            self.assert_plain(found[1:])
            self.assertEqual(paper_end(text=text), world)
        else:
            self.assert_wrong(text, at)
        return at is None

    def assert_wrong(self, text, at):
        self.assertIs(paper_holds(text), False)
        self.assert_raised(InvalidText, {"text": text, "at": at}, paper_end, text)
        self.assert_raised(InvalidText, {"text": text, "at": at}, paper_end, text=text)


class BoardPaperTest(PaperTest):

    def test_line_by_line(self):
        board = Board(Cluster((0, 1), (1, 1), (2, 2)), (1,), ((0,),))
        for deed in (("room", 0, 0), ("settle",), None, "redo", ("wish", 0, 2), ("store", 3, 1, 1),
                     ("piece", 1, (0, 1))):
            if deed is None:
                board.undo()
            elif deed == "redo":
                board.redo()
            else:
                board.deed(deed)
        self.assertEqual(board_paper(board), TEXT)
        self.assertEqual(board_paper(board=board), TEXT)
        self.assertTrue(self.assert_judged(TEXT))

    def test_of_a_board_that_was_led_nowhere(self):
        self.assertEqual(board_paper(Board(THREE, (), ())), write_world(THREE, (), ()) + "\ngoal -")
        self.assertEqual(board_paper(Board(THREE, (1,), ((2,),))), write_world(THREE, (1,), ((2,),)) + "\ngoal 2")
        full = Cluster((0,), (0,), (1,))
        self.assertEqual(board_paper(Board(full, (1,), ((0,),))), write_world(full, (1,), ((0,),)) + "\ngoal none")

    def lead(self, chance, calls):
        """A board led by chance, its world at the beginning, and its paper, made beside it."""
        world = some_world(chance, chance.randint(1, 4), chance.randint(0, 3))
        board = Board(*world)
        lines = [write_world(*world), self.goal_line(board)]
        for _ in range(calls):
            deed = some_deed(chance, board.world())
            if len(board.world()[1]) > 3 and deed[0] == "piece":
                deed = ("rate", 0, 4)
            call = chance.choice(("undo", "redo", "deed", "deed"))
            try:
                board.undo() if call == "undo" else board.redo() if call == "redo" else board.deed(deed)
            except MoveError:
                continue
            words = [",".join(map(str, word)) if isinstance(word, tuple) else str(word) for word in deed]
            lines += [" ".join(words) if call == "deed" else call, self.goal_line(board)]
        return board, "\n".join(lines)

    def goal_line(self, board):
        goal = board.goal()
        return "goal none" if goal is None else "goal " + lots_word(goal)

    def test_of_boards_led_by_chance(self):
        chance = random.Random(261)
        for _ in range(40):
            board, text = self.lead(chance, 20)
            self.assertEqual(board_paper(board), text)
            self.assertTrue(self.assert_judged(text))
            self.assertEqual(paper_end(text), board.world())
            self.assertEqual(board_paper(board), text)

    def test_every_beginning_of_a_paper(self):
        chance = random.Random(262)
        for _ in range(10):
            lines = self.lead(chance, 10)[1].split("\n")
            for many in range(len(lines) + 1):
                text = "\n".join(lines[:many])
                self.assertEqual(self.assert_judged(text), judged(text)[0] is None)
                self.assert_judged(text + "\n")

    def test_forty_pieces_at_eight_stores_in_a_short_time(self):
        chance = random.Random(263)
        board = Board(EIGHT, (2,) * 40, ((0, 1),) * 40)
        start = time.process_time()
        for call in range(60):
            if call % 6 == 5:
                board.undo()
            else:
                board.deed(chance.choice((("room", chance.randrange(8), chance.randrange(10, 20)),
                                          ("wish", chance.randrange(40), chance.randint(1, 3)), ("settle",))))
        text = board_paper(board)
        self.assertLess(len(text), 20000)
        self.assertTrue(paper_holds(text))
        self.assertEqual(paper_end(text), board.world())
        wrong = text[:text.rindex("\n")] + "\ngoal none"
        self.assert_wrong(wrong, text.rindex("\n") + 1)
        self.assertLess(time.process_time() - start, 30)


class JudgeTest(PaperTest):

    def test_other_right_goals_than_a_board_would_have_kept(self):
        head = "cluster 3 1\nstore 0 0 1\nstore 1 1 1\nstore 2 1 1\npiece 1 0\n"
        text = head + "goal 1\nroom 1 2\ngoal 2\nrate 0 2\ngoal 1"
        self.assertTrue(self.assert_judged(text))
        self.assertFalse(self.assert_judged(text + "\nrate 0 2\ngoal 0"))
        self.assertFalse(self.assert_judged(text + "\nrate 0 2\ngoal 1,2"))
        self.assertEqual(paper_end(text + "\nsettle\ngoal 1")[2], ((1,),))
        self.assertEqual(paper_end(text + "\nrate 0 2\ngoal 2\nsettle\ngoal 2")[2], ((2,),))
        self.assertFalse(self.assert_judged(text + "\nsettle\ngoal 2"))

    def test_a_settle_that_is_done_again_brings_what_it_brought_first(self):
        head = "cluster 3 1\nstore 0 0 1\nstore 1 1 1\nstore 2 1 1\npiece 1 0\n"
        text = head + "goal 1\nsettle\ngoal 1\nundo\ngoal 2\nredo\n"
        self.assertTrue(self.assert_judged(text + "goal 1"))
        self.assertFalse(self.assert_judged(text + "goal 2"))
        self.assertEqual(paper_end(text + "goal 1")[2], ((1,),))
        text = head + "goal 1\nsettle\ngoal 1\nundo\ngoal 2\nsettle\ngoal 2\nundo\ngoal 1\nredo\ngoal 2"
        self.assertTrue(self.assert_judged(text))
        self.assertEqual(paper_end(text)[2], ((2,),))

    def test_papers_with_any_right_goals_by_chance(self):
        chance = random.Random(264)
        for _ in range(60):
            world = some_world(chance, chance.randint(1, 4), chance.randint(0, 3))
            worlds, undone = [world], []
            text, aim = write_world(*world), None
            for _ in range(12):
                goals = known_goals(worlds[-1])
                aim = chance.choice(goals) if goals else None
                text += "\ngoal " + ("none" if aim is None else lots_word(aim))
                self.assertTrue(self.assert_judged(text))
                call = self.some_call(chance, worlds, undone, aim)
                undone = next_state(worlds, undone, aim, call)
                words = [lots_word((word,)) if isinstance(word, tuple) else str(word) for word in call]
                text += "\n" + " ".join(words)
                self.assert_wrong(text, len(text))

    def some_call(self, chance, worlds, undone, aim):
        """A call by chance that can be done."""
        while True:
            call = chance.choice((("undo",), ("redo",), some_deed(chance, worlds[-1]), some_deed(chance, worlds[-1])))
            pieces, stores = len(worlds[-1][1]), worlds[-1][0].store_count
            few = (call[0] != "piece" or pieces < 4) and (call[0] != "store" or stores < 5)
            if few and next_state(list(worlds), undone, aim, call) is not None:
                return call

    def test_wrong_lines_of_deeds(self):
        for line in ("", " ", "undo", "redo", "settle ", " settle", "settle 0", "Settle", "room 0", "room 0 0 0",
                     "room 2 0", "room 0 100", "room 00 0", "room 0 01", "room 0 -1", "room  0 0", "room 0  0",
                     "room 0 0 ",
                     "room 0,0", "rate 0 0", "rate 0 9", "rate 2 1", "wish 1 1", "wish 0 0", "wish 0 4", "wish 0 01",
                     "store 0 0", "store 0 0 1 1", "store 100 0 1", "store 0 0 9", "piece 0 0", "piece 4 0", "piece 1",
                     "piece 1 2", "piece 1 ", "piece 1 1,0", "piece 1 0,0", "piece 1 0,", "piece 1 ,0", "piece 1 00",
                     "piece 1 -", "piece 1 0 1", "piece 01 0", "rack 0 1", "goal 0", "goal none", "undo ", "undo 0",
                     "redo 0",
                     "cluster 1 0", "room " + "0" * 5000 + " 0", "room \u0661 0", "room 0 0\r", "none"):
            text = TEXT[:TEXT.index("\nroom")]
            self.assert_wrong(text + "\n" + line, len(text) + 1)
            self.assert_wrong(text + "\n" + line + "\ngoal 0", len(text) + 1)
            self.assert_judged(text + "\n" + line)

    def test_settle_without_a_goal(self):
        text = "cluster 1 1\nstore 0 0 1\npiece 1 0\ngoal none"
        self.assertTrue(self.assert_judged(text))
        self.assert_wrong(text + "\nsettle\ngoal none", len(text) + 1)
        self.assertTrue(self.assert_judged(text + "\nroom 0 1\ngoal 0\nsettle\ngoal 0"))

    def test_undo_and_redo_with_nothing_to_undo(self):
        text = TEXT[:TEXT.index("\nroom")]
        self.assertTrue(self.assert_judged(text + "\nroom 0 0\ngoal 1\nundo\ngoal 0\nredo\ngoal 1"))
        self.assertFalse(self.assert_judged(text + "\nroom 0 0\ngoal 1\nundo\ngoal 0\nundo\ngoal 0"))
        self.assertFalse(self.assert_judged(text + "\nroom 0 0\ngoal 1\nundo\ngoal 0\nredo\ngoal 1\nredo\ngoal 1"))
        self.assertFalse(self.assert_judged(text + "\nroom 0 0\ngoal 1\nundo\ngoal 0\nwish 0 1\ngoal 0\nredo\ngoal 0"))

    def test_wrong_lines_of_goals(self):
        text = TEXT[:TEXT.index("\ngoal 1\nsettle")]
        for line in ("goal none", "goal 0", "goal 0,1", "goal -", "goal 2", "goal 1;1", "goal 01", "goal 1 ", " goal 1",
                     "goal  1", "goal", "goal ", "goal 1,", "Goal 1", "goal 1,1", "goal None", "", "1", "none",
                     "goal none ", "goal 1;", "goal \u0661", "goal 1\r", "goal " + "1" * 5000, "settle", "undo"):
            self.assert_wrong(text + "\n" + line, len(text) + 1)
            self.assert_judged(text + "\n" + line + "\nundo\ngoal 0")

    def test_eight_stores_and_forty_pieces(self):
        lines = [write_world(EIGHT, (1,) * 39, ((0,),) * 39), "goal " + lots_word(((0,),) * 15 + ((1,),) * 24)]
        board = Board(EIGHT, (1,) * 39, ((0,),) * 39)
        text = board_paper(board)
        self.assert_wrong(text + "\nstore 0 0 1\ngoal none", len(text) + 1)
        self.assert_wrong("\n".join(lines), len(lines[0]) + 1)
        board.deed(("piece", 1, (7,)))
        text = board_paper(board)
        self.assertTrue(paper_holds(text))
        self.assert_wrong(text + "\npiece 1 7\ngoal none", len(text) + 1)

    def test_lines_that_are_lacking_and_lines_too_many(self):
        lines = TEXT.split("\n")
        for many in range(len(lines)):
            text = "\n".join(lines[:many])
            holds = many > 4 and many % 2 == 1
            self.assertIs(self.assert_judged(text), holds)
            if not holds:
                self.assert_wrong(text, len(text))
        for more in ("", "x", "goal none", "goal 0"):
            self.assert_wrong(TEXT + "\n" + more, len(TEXT) + 1)
        self.assert_wrong("", 0)

    def test_every_text_that_differs_a_little(self):
        held = 0
        texts = spoiled_texts(TEXT, "\n ,;-0123489ne")
        for text in texts:
            held += self.assert_judged(text)
        self.assertTrue(10 < held < len(texts) // 4)

    def test_many_deeds(self):
        text = "cluster 1 0\nstore 0 0 1\ngoal -" + "\nroom 0 1\ngoal -\nundo\ngoal -" * 700
        self.assertTrue(paper_holds(text))
        self.assert_wrong(text + "\nundo", len(text) + 1)


if __name__ == "__main__":
    unittest.main()
