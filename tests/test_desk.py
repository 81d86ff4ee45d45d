"""Promises [21] and [22], and [1] to [4] as they bear on them."""

import copy
import random
import time
import unittest

from helper import (EIGHT, MovedTest, NO_TUPLES, THREE, all_lots, deed_done, goals_of, some_world, spoiled_texts)
from movedwhole.cheapest import fewest_placing
from movedwhole.clusters import Cluster
from movedwhole.desk import Desk, replayed_desk
from movedwhole.errors import (InvalidLine, InvalidLot, InvalidNumber, InvalidPlacing, InvalidWishes, MoveError,
                               NothingToUndo, TooMany, Undefined, UnknownWord)
from movedwhole.placings import first_breach
from movedwhole.rooming import lacks_room
from movedwhole.sources import least_busiest, lot_value_of

WORLD = (Cluster((0, 0, 1), (2, 2, 3), (2, 3, 1)), (1, 2), ((0,), (0, 1)))
QUESTIONS = ("breach", "lacking", "new", "rounds", "lot", "where 0", "where 1")
FORMS = {"store": "iii", "room": "ii", "rack": "ii", "rate": "ii", "wish": "ii", "piece": "il", "settle": "",
         "breach": "", "lacking": "", "new": "", "rounds": "", "lot": "", "where": "i", "undo": "", "redo": ""}
FIGURES = [str(number) for number in range(100)]


def told(call, *arguments):
    """What the call answers, or what its error tells."""
    try:
        return call(*arguments)
    except MoveError as error:
        return (type(error), vars(error))


def state_of(desk):
    """All that a desk shows, and what it answers to each question."""
    shown = (desk.cluster, desk.wishes, desk.placing, desk.lines)
    return shown + tuple(told(desk.run, line) for line in QUESTIONS)


def wrong_word(line):
    """By the words of [22]: where a line of a known word is of no such form; None if it is of one."""
    words = line.split(" ")
    at = len(words[0]) + 1
    for place, word in enumerate(words[1:]):
        form = FORMS[words[0]][place:place + 1]
        parts = word.split(",") if form == "l" else [word]
        if not form or not all(part in FIGURES for part in parts):
            return at
        at += len(word) + 1
    return len(line) if len(words) - 1 < len(FORMS[words[0]]) else None


def some_line(chance, world):
    """A line of a deed by chance; most of them can be run."""
    cluster, wishes, _ = world
    stores, pieces = cluster.store_count, len(wishes)
    lot = ",".join(str(store) for store in chance.choice(all_lots(min(stores, 4))[1:]))
    return chance.choice((
        f"store {chance.randrange(4)} {chance.randrange(4)} {chance.choice((1, 2, 8, 9))}", "settle", "settle",
        f"room {chance.randrange(stores + 1)} {chance.randrange(pieces + 2)}",
        f"rack {chance.randrange(stores)} {chance.randrange(5)}",
        f"rate {chance.randrange(stores)} {chance.randrange(4)}",
        f"wish {chance.randrange(pieces + 1)} {chance.randrange(1, 5)}", f"piece {chance.choice((1, 2, 3))} {lot}",
    ))


class DeskTest(MovedTest):

    def assert_world(self, desk, world, lines):
        """That the desk shows this world and these lines."""
        self.assertEqual((desk.cluster, desk.wishes, desk.placing), world)
        self.assertEqual(desk.lines, tuple(lines))
        self.assert_plain((desk.wishes, desk.placing, desk.lines))

    def assert_refused(self, desk, kind, attributes, line):
        """That the line raises this error and changes nothing that the desk shows or answers."""
        kept = state_of(desk)
        self.assert_raised(kind, attributes, desk.run, line)
        self.assert_raised(kind, attributes, desk.run, line=line)
        self.assertEqual(state_of(desk), kept)

    def run_deed(self, desk, line, deed, goal=None):
        """Runs a line of a deed, and checks what it changed."""
        world, lines = (desk.cluster, desk.wishes, desk.placing), desk.lines
        self.assertEqual(desk.run(line), "")
        self.assert_world(desk, deed_done(world, goal, deed), lines + (line,))


class DeedTest(DeskTest):

    def test_each_deed(self):
        desk = Desk(*WORLD)
        self.assert_world(desk, WORLD, ())
        self.run_deed(desk, "store 9 0 8", ("store", 9, 0, 8))
        self.run_deed(desk, "room 3 99", ("room", 3, 99))
        self.run_deed(desk, "rack 3 10", ("rack", 3, 10))
        self.run_deed(desk, "rate 0 4", ("rate", 0, 4))
        self.run_deed(desk, "wish 1 3", ("wish", 1, 3))
        self.run_deed(desk, "piece 2 0,3", ("piece", 2, (0, 3)))
        self.run_deed(desk, "piece 1 2", ("piece", 1, (2,)))
        goal = fewest_placing(desk.cluster, desk.wishes, desk.placing)
        self.run_deed(desk, "settle", ("settle",), goal)
        self.assertEqual(len(desk.lines), 8)

    def test_by_name(self):
        cluster, wishes, placing = WORLD
        desk = Desk(cluster=cluster, wishes=wishes, placing=placing)
        self.assertEqual(desk.run(line="wish 0 2"), "")
        again = replayed_desk(cluster=cluster, wishes=wishes, placing=placing, lines=["wish 0 2"])
        self.assertEqual(state_of(again), state_of(desk))

    def test_a_placing_that_does_not_keep_the_rules_is_let(self):
        desk = Desk(*WORLD)
        self.assertEqual(desk.run("breach"), "racks 1")
        self.assertEqual(desk.run("settle"), "")
        self.assertEqual(desk.run("breach"), "none")

    def test_eight_stores_and_forty_pieces(self):
        desk = Desk(EIGHT, (1,) * 39, ((0,),) * 39)
        self.run_deed(desk, "piece 3 0,1,2,3,4,5,6,7", ("piece", 3, tuple(range(8))))
        for line, kind, attributes in (("piece 1 0", TooMany, {"what": "pieces"}),
                                       ("piece 4 0", InvalidNumber, {"value": 4}),
                                       ("store 0 0 1", TooMany, {"what": "stores"}), ("store 0 0 9", TooMany, {})):
            self.assert_refused(desk, kind, attributes, line)
        with self.assertRaises(InvalidLot):
            desk.run("piece 1 8")
        self.assertEqual(desk.run("where 39"), "0,1,2,3,4,5,6,7")
        desk.run("undo")
        self.run_deed(desk, "piece 1 7", ("piece", 1, (7,)))


class QuestionTest(DeskTest):

    def test_told_by_hand(self):
        desk = Desk(*WORLD)
        answers = {"breach": "racks 1", "lacking": "none", "new": "1", "rounds": "1", "where 0": "0", "where 1": "0,1"}
        self.assertEqual({line: desk.run(line) for line in answers}, answers)
        desk.run("settle")
        answers = {"breach": "none", "new": "0", "rounds": "0", "lot": "-"}
        self.assertEqual({line: desk.run(line) for line in answers}, answers)
        desk.run("wish 0 3")
        self.assertEqual((desk.run("breach"), desk.run("lacking")), ("count 0", "-"))
        desk.run("undo")
        desk.run("room 2 0")
        self.assertEqual(desk.run("lacking"), "2")
        self.assertEqual(desk.run("breach"), "room 2")

    def test_an_answer_of_three_figures(self):
        desk = Desk(Cluster((0, 1, 2, 3), (0, 40, 40, 40), (1,) * 4), (3,) * 40, ((0,),) * 40)
        self.assertEqual((desk.run("new"), desk.run("rounds"), desk.run("lot")), ("120", "120", "0"))

    def test_by_the_words_in_small_worlds(self):
        chance = random.Random(211)
        lacking = 0
        for _ in range(150):
            cluster, wishes, placing = some_world(chance, chance.randint(1, 5), chance.randint(0, 4))
            rooms = [max(0, room - chance.randrange(3)) for room in cluster.rooms]
            cluster = Cluster(cluster.racks, rooms, cluster.rates)
            desk = Desk(cluster, wishes, placing)
            breach = first_breach(cluster, wishes, placing)
            self.assertEqual(desk.run("breach"), " ".join(map(str, breach)) if breach else "none")
            for piece, lot in enumerate(placing):
                self.assertEqual(desk.run(f"where {piece}"), ",".join(map(str, lot)))
            if goals_of((cluster, wishes, placing)):
                self.assertEqual(desk.run("lacking"), "none")
                self.assert_change(desk, cluster, wishes, placing)
            else:
                lacking += 1
                word = desk.run("lacking")
                self.assertTrue(lacks_room(cluster, wishes, self.lot_told(word)))
                for line in ("new", "rounds", "lot", "settle"):
                    self.assert_refused(desk, Undefined, {"what": "room"}, line)
        self.assertTrue(20 < lacking < 130)

    def lot_told(self, word):
        return () if word == "-" else tuple(int(store) for store in word.split(","))

    def assert_change(self, desk, cluster, wishes, placing):
        """That the questions about the change to fewest_placing are answered as they must."""
        after = fewest_placing(cluster, wishes, placing)
        new = sum(len(set(lot) - set(elder)) for elder, lot in zip(placing, after))
        least = least_busiest(cluster, placing, after)
        self.assertEqual(desk.run("new"), str(new))
        self.assertEqual(desk.run("rounds"), str(least))
        word = desk.run("lot")
        self.assertIs(type(word), str)
        if new:
            self.assertEqual(lot_value_of(cluster, placing, after, self.lot_told(word)), least)
        else:
            self.assertEqual(word, "-")

    def test_forty_pieces_and_a_hundred_lines_in_a_short_time(self):
        start = time.process_time()
        desk = Desk(EIGHT, (2,) * 40, ((0, 1),) * 40)
        for number in range(25):
            desk.run(f"room {number % 8} {12 + number % 5}")
            self.assertEqual(desk.run("lacking"), "none")
            desk.run("rounds")
            desk.run(("settle", "new", "undo")[number % 3])
        again = replayed_desk(EIGHT, (2,) * 40, ((0, 1),) * 40, desk.lines)
        self.assertEqual(state_of(again), state_of(desk))
        self.assertLess(time.process_time() - start, 20)


class UndoTest(DeskTest):

    def test_undo_and_redo(self):
        desk = Desk(*WORLD)
        desk.run("wish 0 2")
        desk.run("settle")
        worlds = [WORLD, deed_done(WORLD, None, ("wish", 0, 2)), (desk.cluster, desk.wishes, desk.placing)]
        lines = ("wish 0 2", "settle")
        for line, many in (("undo", 1), ("undo", 0), ("redo", 1), ("redo", 2), ("undo", 1), ("redo", 2), ("undo", 1)):
            self.assertEqual(desk.run(line), "")
            self.assert_world(desk, worlds[many], lines[:many])
        for question in QUESTIONS:
            desk.run(question)
        self.assertEqual(desk.run("redo"), "")
        self.assert_world(desk, worlds[2], lines)

    def test_nothing_to_undo_or_to_do_again(self):
        desk = Desk(*WORLD)
        self.assert_refused(desk, NothingToUndo, {"word": "undo"}, "undo")
        self.assert_refused(desk, NothingToUndo, {"word": "redo"}, "redo")
        desk.run("rate 0 1")
        self.assert_refused(desk, NothingToUndo, {"word": "redo"}, "redo")
        desk.run("undo")
        self.assert_refused(desk, NothingToUndo, {"word": "undo"}, "undo")
        desk.run("redo")
        self.assert_refused(desk, NothingToUndo, {"word": "redo"}, "redo")
        desk.run("undo")
        desk.run("rate 0 3")
        self.assert_refused(desk, NothingToUndo, {"word": "redo"}, "redo")

    def test_a_line_that_raises_changes_nothing_of_what_can_be_done_again(self):
        desk = Desk(*WORLD)
        desk.run("rate 0 1")
        desk.run("undo")
        for line in ("rate 0 0", "rate 9 1", "rates 0 1", "rate 0", "piece 1 7", "wish 0 4", "undo", "store 0 0 0"):
            with self.assertRaises(MoveError):
                desk.run(line)
        self.assertEqual(desk.run("redo"), "")
        self.assertEqual(desk.lines, ("rate 0 1",))
        full = Desk(Cluster((0, 1), (1, 0), (1, 1)), (1,), ((0,),))
        for line in ("wish 0 2", "undo", "room 0 0", "rate 0 2", "undo"):
            full.run(line)
        self.assert_refused(full, Undefined, {"what": "room"}, "settle")
        self.assertEqual(full.run("redo"), "")
        self.assertEqual(full.lines, ("room 0 0", "rate 0 2"))

    def test_by_chance_beside_a_list_of_worlds(self):
        chance = random.Random(212)
        for _ in range(50):
            self.lead(chance, 30)

    def lead(self, chance, calls):
        """Leads a desk by chance."""
        start = some_world(chance, chance.randint(1, 4), chance.randint(1, 3))
        desk = Desk(*start)
        worlds, lines, undone = [start], [], []
        for _ in range(calls):
            line = chance.choice(("undo", "redo", some_line(chance, worlds[-1]), some_line(chance, worlds[-1])))
            answer = told(desk.run, line)
            if line == "undo" and lines:
                undone.append((worlds.pop(), lines.pop()))
            elif line == "redo" and undone:
                world, again = undone.pop()
                worlds.append(world)
                lines.append(again)
            elif line in ("undo", "redo"):
                self.assertEqual(answer, (NothingToUndo, {"word": line}))
            elif answer == "":
                word, *numbers = line.split(" ")
                deed = (word, *[int(number) for number in numbers if word != "piece"])
                if word == "piece":
                    deed = ("piece", int(numbers[0]), tuple(int(store) for store in numbers[1].split(",")))
                worlds.append(deed_done(worlds[-1], fewest_placing(*worlds[-1]) if word == "settle" else None, deed))
                lines.append(line)
                undone = []
            self.assert_world(desk, worlds[-1], lines)
        return start, desk

    def test_a_desk_and_its_replay_answer_every_line_but_redo_alike(self):
        chance = random.Random(213)
        for _ in range(40):
            start, desk = self.lead(chance, 15)
            again = replayed_desk(*start, desk.lines)
            self.assertEqual(state_of(again), state_of(desk))
            many = ["", "undo 1", "where 9", "room 9 9", "piece 1 9", "store 1 1 9", "wish 0 9", "settle 1", "x"]
            many += QUESTIONS + tuple(some_line(chance, (desk.cluster, desk.wishes, desk.placing)) for _ in range(20))
            for line in many:
                one, other = copy.deepcopy(desk), copy.deepcopy(again)
                self.assertEqual(told(one.run, line), told(other.run, line))
                self.assertEqual(state_of(one), state_of(other))
            for _ in range(len(desk.lines) + 1):
                self.assertEqual(told(desk.run, "undo"), told(again.run, "undo"))
                self.assertEqual(state_of(desk), state_of(again))

    def test_equal_calls_lead_to_equal_desks(self):
        for seed in range(8):
            one, other = [self.lead(random.Random(seed), 20)[1] for _ in range(2)]
            self.assertEqual(state_of(one), state_of(other))


class ReplayTest(DeskTest):

    def test_lines_of_any_words(self):
        lines = ["breach", "wish 0 2", "undo", "redo", "settle", "new", "where 0", "rate 2 2", "undo"]
        for some in (lines, tuple(lines)):
            desk = replayed_desk(*WORLD, some)
            self.assertIs(type(desk), Desk)
            self.assertEqual(desk.lines, ("wish 0 2", "settle"))
            self.assertEqual(desk.run("redo"), "")
        self.assertEqual(lines[-1], "undo")
        self.assert_world(replayed_desk(*WORLD, ()), WORLD, ())

    def test_an_error_of_a_line_is_raised(self):
        for line, kind, attributes in (
                ("redo", NothingToUndo, {"word": "redo"}), ("wish 5 1", InvalidNumber, {"value": 5}),
                ("wish", InvalidLine, {"line": "wish", "at": 4}), ("", UnknownWord, {"word": ""})):
            self.assert_raised(kind, attributes, replayed_desk, *WORLD, ["wish 0 2", line, "xyz"])

    def test_what_was_passed_may_change_later(self):
        lines = ["wish 0 2"]
        desk = replayed_desk(*WORLD, lines)
        lines.append("settle")
        self.assertEqual(desk.lines, ("wish 0 2",))


class ErrorsTest(DeskTest):

    def test_of_a_desk_that_is_made(self):
        for wrong in NO_TUPLES + ((0,), (4,), (True,), (1, None), [1]):
            for placing in (((0,),), None):
                self.assert_raised(InvalidWishes, {"value": wrong}, Desk, THREE, wrong, placing)
                self.assert_raised(InvalidWishes, {"value": wrong}, replayed_desk, THREE, wrong, placing, ["x"])
        for wrong in NO_TUPLES + ((), ((0,), (1,)), ((),), ((3,),), ((1, 0),), ((True,),), ([0],), (0,)):
            self.assert_raised(InvalidPlacing, {"value": wrong}, Desk, THREE, (1,), wrong)
            self.assert_raised(InvalidPlacing, {"value": wrong}, replayed_desk, THREE, (1,), wrong, ["x"])

    def test_unknown_words(self):
        desk = Desk(*WORLD)
        for line, word in (("", ""), (" ", ""), (" undo", ""), ("Undo", "Undo"), ("undone", "undone"),
                           ("settle\n", "settle\n"),
                           ("goal 0", "goal"), ("cluster 1 0", "cluster"), ("where\t0", "where\t0"),
                           ("rooms  1", "rooms"),
                           ("room,0 1", "room,0"), ("none", "none"), ("0", "0"), ("\u00e4 1", "\u00e4")):
            self.assert_refused(desk, UnknownWord, {"word": word}, line)

    def test_lines_of_no_such_form(self):
        desk = Desk(*WORLD)
        for line, at in (
                ("store", 5), ("store 0 0", 9), ("store ", 6), ("store 0 0 ", 10), ("store 0 0 1 ", 12),
                ("store 0 0 1 1", 12),
                ("store  0 1", 6), ("store 0  1", 8), ("store 00 0 1", 6), ("store 0 100 1", 8), ("store x y", 6),
                ("store 0 -1", 8), ("store 0 0,1 1", 8), ("room 0 +1", 7), ("rack 0 \u0661", 7), ("rate 0", 6),
                ("rate 0 1 1", 9),
                ("wish 0 01", 7), ("wish 0 1\n", 7), ("piece 1", 7), ("piece 1 ", 8), ("piece 1 0,", 8),
                ("piece 1 ,0", 8),
                ("piece 1 0,,1", 8), ("piece 1 0,01", 8), ("piece 1 100", 8), ("piece 1 0 1", 10), ("piece 1,2 0", 6),
                ("piece 1 0, 1", 8), ("piece 1 -", 8), ("settle ", 7), ("settle 1", 7), ("settle  ", 7), ("undo ", 5),
                ("redo x", 5), ("breach 0", 7), ("lacking ", 8), ("new 1", 4), ("rounds 1", 7), ("lot 0", 4),
                ("where", 5),
                ("where ", 6), ("where 0 ", 8), ("where 0 1", 8), ("where 0,1", 6), ("where  0", 6), ("where 007", 6),
                ("where " + "1" * 5000, 6), ("store 0 0 1 " + "0 " * 90, 12), ("piece 1 " + "1" * 5000, 8)):
            self.assert_refused(desk, InvalidLine, {"line": line, "at": at}, line)
            self.assertEqual(wrong_word(line), at)

    def test_every_line_that_differs_a_little(self):
        wrong = 0
        lines = {text for line in ("store 1 22 3", "piece 2 0,1", "where 1", "settle", "undo", "lot")
                 for text in spoiled_texts(line, " ,01239-x")}
        for line in sorted(lines):
            desk = Desk(*WORLD)
            desk.run("rate 0 3")
            word = line.split(" ")[0]
            answer = told(desk.run, line)
            if word not in FORMS:
                self.assertEqual(answer, (UnknownWord, {"word": word}))
            elif wrong_word(line) is not None:
                wrong += 1
                self.assertEqual(answer, (InvalidLine, {"line": line, "at": wrong_word(line)}))
            else:
                self.assertNotIn(answer[:1], ((UnknownWord,), (InvalidLine,)))
        self.assertGreater(wrong, 100)

    def test_what_the_functions_raise(self):
        desk = Desk(*WORLD)
        for line, value in (("store 0 0 0", 0), ("store 0 0 9", 9), ("room 3 0", 3), ("room 99 0", 99), ("rack 3 0", 3),
                            ("rate 3 0", 3), ("rate 0 0", 0), ("rate 0 9", 9), ("wish 2 9", 2), ("wish 0 0", 0),
                            ("wish 1 4", 4), ("piece 0 9", 0), ("piece 4 1,0", 4), ("where 2", 2), ("where 40", 40)):
            self.assert_refused(desk, InvalidNumber, {"value": value}, line)
        for line, lot in (("piece 1 3", (3,)), ("piece 1 1,0", (1, 0)), ("piece 1 0,0", (0, 0)),
                          ("piece 3 0,1,2,3", (0, 1, 2, 3))):
            kept = state_of(desk)
            with self.assertRaises(InvalidLot) as caught:
                desk.run(line)
            self.assertEqual(caught.exception.value, lot)
            self.assert_plain(caught.exception.value)
            self.assertEqual(state_of(desk), kept)
        desk = Desk(THREE, (), ())
        self.assert_refused(desk, InvalidNumber, {"value": 0}, "where 0")
        self.assert_refused(desk, InvalidNumber, {"value": 0}, "wish 0 1")


if __name__ == "__main__":
    unittest.main()
