"""Promise [25], and [1] to [4] as they bear on it."""

import random
import time
import unittest

from helper import (EIGHT, MovedTest, NO_INTEGERS, NO_TUPLES, THREE, count_new, deed_done, deed_fits, deep, goals_of,
                    some_deed, some_world)
from movedwhole.boards import Board
from movedwhole.cheapest import fewest_new
from movedwhole.clusters import Cluster
from movedwhole.errors import InvalidDeed, InvalidPlacing, InvalidWishes, NothingToUndo, Undefined
from movedwhole.placings import first_breach
from movedwhole.sources import least_busiest


def state_of(board):
    """All that can be asked of a board."""
    return (board.world(), board.goal(), board.done())


class BoardTest(MovedTest):

    def assert_reported(self, board, elder, report):
        """That the board's goal and its report are as they must be behind an elder goal."""
        world = board.world()
        goals = goals_of(world)
        self.assertIs(type(world), tuple)
        self.assert_plain((world[1:], board.goal(), board.done(), report))
        if not goals:
            self.assertIsNone(board.goal())
            self.assertEqual(report, ("none", 0, 0))
            return
        self.assertIn(board.goal(), goals)
        word = "kept" if elder in goals else "renewed"
        if word == "kept":
            self.assertEqual(board.goal(), elder)
        new = count_new(world[2], board.goal())
        self.assertEqual(report, (word, new, least_busiest(world[0], world[2], board.goal())))

    def do(self, board, deed):
        """Does a deed that fits, and checks what it changed."""
        world, goal, done = state_of(board)
        report = board.deed(deed)
        self.assertEqual(board.world(), deed_done(world, goal, deed))
        self.assertEqual(board.done(), done + (deed,))
        self.assert_reported(board, goal, report)
        return report

    def assert_refused(self, board, kind, attributes, call, *arguments):
        """That a call raises and changes nothing that can be asked."""
        kept = state_of(board)
        self.assert_raised(kind, attributes, call, *arguments)
        self.assertEqual(state_of(board), kept)


class DeedTest(BoardTest):

    def test_a_board_begins_with_some_goal(self):
        board = Board(THREE, (1, 2), ((0,), (0,)))
        self.assertEqual(board.world(), (THREE, (1, 2), ((0,), (0,))))
        self.assertIn(board.goal(), goals_of(board.world()))
        self.assertEqual(board.done(), ())
        self.assertIsNone(Board(cluster=Cluster((0,), (9,), (1,)), wishes=(2,), placing=((0,),)).goal())
        self.assertEqual(Board(THREE, (), ()).goal(), ())

    def test_each_kind_of_deed(self):
        board = Board(Cluster((0, 1), (2, 0), (1, 2)), (1, 1), ((0,), (0,)))
        self.assertEqual(self.do(board, ("room", 0, 1)), ("none", 0, 0))
        self.assertEqual(self.do(board, ("store", 5, 1, 3)), ("renewed", 1, 1))
        self.assertEqual(self.do(board, ("rate", 0, 2)), ("kept", 1, 1))
        self.assertEqual(self.do(board, ("wish", 1, 2)), ("none", 0, 0))
        self.assertEqual(self.do(board, ("room", 1, 9)), ("renewed", 2, 1))
        self.assertEqual(self.do(board, ("piece", 1, (0, 2)))[0], "renewed")
        goal = board.goal()
        self.assertEqual(self.do(board, ("settle",)), ("kept", 0, 0))
        self.assertEqual(board.world()[2], goal)
        self.assertEqual(board.done()[0], ("room", 0, 1))
        self.assertEqual(len(board.done()), 7)

    def test_deed_by_name(self):
        board = Board(THREE, (1,), ((0,),))
        self.assertEqual(board.deed(deed=("wish", 0, 2)), ("renewed", 1, 1))

    def test_a_goal_that_is_still_one_is_kept_though_there_are_others(self):
        board = Board(Cluster((0, 1, 2, 3), (0, 1, 1, 1), (1,) * 4), (1,), ((0,),))
        goal = board.goal()
        others = [store for store in (1, 2, 3) if (store,) not in goal]
        for store in others:
            self.assertEqual(self.do(board, ("room", store, 9))[0], "kept")
        self.assertEqual(self.do(board, ("room", goal[0][0], 0))[0], "renewed")
        self.assertNotEqual(board.goal(), goal)
        later = board.goal()
        # The elder goal is the one that stood when undo was called.
        self.assertEqual(board.undo()[0], "kept")
        self.assertEqual(board.goal(), later)

    def test_behind_none_the_goal_is_renewed(self):
        board = Board(THREE, (1,), ((0,),))
        self.assertEqual(self.do(board, ("wish", 0, 3))[0], "renewed")
        self.assertEqual(self.do(board, ("room", 0, 0))[0], "none")
        self.assertEqual(board.undo()[0], "renewed")

    def test_a_goal_with_a_store_that_there_is_no_more_is_renewed(self):
        board = Board(Cluster((0, 1), (1, 0), (1, 1)), (1, 1), ((0,), (0,)))
        self.do(board, ("store", 2, 9, 1))
        self.assertEqual(self.do(board, ("room", 0, 0))[0], "renewed")
        self.assertEqual(board.goal(), ((2,), (2,)))
        board.undo()
        self.assertEqual(board.undo(), ("none", 0, 0))

    def test_a_goal_of_fewer_or_more_pieces_is_renewed(self):
        board = Board(THREE, (1,), ((0,),))
        self.assertEqual(self.do(board, ("piece", 1, (0, 1)))[0], "renewed")
        self.assertEqual(board.undo()[0], "renewed")
        self.assertEqual(board.redo()[0], "renewed")

    def test_by_chance_with_undo_and_redo(self):
        chance = random.Random(251)
        words = []
        for _ in range(50):
            words += [report[0] for report in self.lead(chance, 25)[1]]
        self.assertTrue(all(words.count(word) > 50 for word in ("none", "kept", "renewed")))

    def lead(self, chance, calls):
        """Leads a board by chance, beside lists of its worlds; the board and its reports."""
        board = Board(*some_world(chance, chance.randint(1, 4), chance.randint(0, 3)))
        worlds, undone, reports = [board.world()], [], []
        for _ in range(calls):
            goal, done = board.goal(), board.done()
            call = chance.choice(("undo", "undo", "redo", "redo", "deed", "deed", "deed"))
            if call == "undo" and len(worlds) == 1:
                self.assert_refused(board, NothingToUndo, {"word": "undo"}, board.undo)
            elif call == "redo" and not undone:
                self.assert_refused(board, NothingToUndo, {"word": "redo"}, board.redo)
            elif call == "deed":
                many = len(reports)
                self.try_deed(chance, board, reports)
                if len(reports) > many:
                    undone = []
                    worlds.append(board.world())
            else:
                if call == "undo":
                    undone.append((done[-1], worlds.pop()))
                    expected = done[:-1]
                else:
                    expected = done + (undone[-1][0],)
                    worlds.append(undone.pop()[1])
                reports.append(board.undo() if call == "undo" else board.redo())
                self.assertEqual(board.done(), expected)
                self.assert_reported(board, goal, reports[-1])
            self.assertEqual(board.world(), worlds[-1])
        return board, reports

    def try_deed(self, chance, board, reports):
        """Tries a deed by chance, and keeps its report if it is done."""
        deed = some_deed(chance, board.world())
        if len(board.world()[1]) > 3 and deed[0] == "piece":
            deed = ("rate", 0, 2)
        if not deed_fits(board.world(), deed):
            self.assert_refused(board, InvalidDeed, {"value": deed}, board.deed, deed)
        elif deed == ("settle",) and board.goal() is None:
            self.assert_refused(board, Undefined, {"what": "goal"}, board.deed, deed)
        else:
            reports.append(self.do(board, deed))

    def test_equal_calls_lead_to_equal_boards(self):
        for seed in range(6):
            one, other = [self.lead(random.Random(seed), 20) for _ in range(2)]
            self.assertEqual(state_of(one[0]), state_of(other[0]))
            self.assertEqual(one[1], other[1])

    def test_forty_pieces_at_eight_stores_in_a_short_time(self):
        chance = random.Random(252)
        board = Board(EIGHT, (2,) * 40, ((0, 1),) * 40)
        start = time.process_time()
        for call in range(60):
            if call % 6 == 5:
                board.undo()
            else:
                board.deed(chance.choice((("room", chance.randrange(8), chance.randrange(10, 20)),
                                          ("wish", chance.randrange(40), chance.randint(1, 3)), ("settle",))))
            cluster, wishes, placing = board.world()
            self.assertIsNone(first_breach(cluster, wishes, board.goal()))
            self.assertEqual(count_new(placing, board.goal()), fewest_new(cluster, wishes, placing))
        self.assertLess(time.process_time() - start, 20)


class UndoTest(BoardTest):

    def test_nothing_to_undo_or_to_do_again(self):
        board = Board(THREE, (1,), ((0,),))
        self.assert_refused(board, NothingToUndo, {"word": "undo"}, board.undo)
        self.assert_refused(board, NothingToUndo, {"word": "redo"}, board.redo)
        board.deed(("wish", 0, 2))
        self.assert_refused(board, NothingToUndo, {"word": "redo"}, board.redo)
        board.undo()
        self.assert_refused(board, NothingToUndo, {"word": "undo"}, board.undo)
        board.redo()
        self.assert_refused(board, NothingToUndo, {"word": "redo"}, board.redo)
        board.undo()
        board.deed(("wish", 0, 3))
        self.assert_refused(board, NothingToUndo, {"word": "redo"}, board.redo)

    def test_a_call_that_raises_changes_nothing_of_what_can_be_done_again(self):
        board = Board(THREE, (1,), ((0,),))
        board.deed(("wish", 0, 2))
        board.deed(("wish", 0, 3))
        board.undo()
        board.undo()
        for wrong in (("wish", 1, 2), ("wish", 0, 4), None, ("rack", 0, 1), ("undo",), ("store", 0, 0, 0)):
            self.assert_refused(board, InvalidDeed, {"value": wrong}, board.deed, wrong)
        self.assert_refused(board, NothingToUndo, {"word": "undo"}, board.undo)
        self.assertEqual(board.redo()[1], 1)
        self.assertEqual(board.redo()[1], 2)
        self.assertEqual(board.done(), (("wish", 0, 2), ("wish", 0, 3)))

    def test_settle_without_a_goal_leaves_what_can_be_done_again(self):
        board = Board(THREE, (1,), ((0,),))
        board.deed(("room", 0, 0))
        board.deed(("room", 1, 0))
        board.deed(("room", 2, 0))
        board.deed(("wish", 0, 2))
        board.undo()
        self.assertIsNone(board.goal())
        self.assert_refused(board, Undefined, {"what": "goal"}, board.deed, ("settle",))
        board.redo()
        self.assertEqual(board.world()[1], (2,))

    def test_settle_is_done_again_with_the_placing_that_it_had_then(self):
        board = Board(Cluster((0, 1, 2), (0, 9, 9), (1, 1, 1)), (1,), ((0,),))
        first = board.goal()
        board.deed(("settle",))
        board.deed(("room", first[0][0], 0))
        self.assertNotEqual(board.goal(), first)
        other = board.goal()
        board.undo()
        self.assertEqual(board.world()[2], first)
        self.assertEqual(board.goal(), first)
        board.undo()
        board.deed(("room", first[0][0], 0))
        self.assertEqual(board.goal(), other)
        board.undo()
        board.deed(("settle",))
        self.assertEqual(board.world()[2], other)
        board.undo()
        self.assertEqual(board.world()[2], ((0,),))
        board.redo()
        self.assertEqual(board.world()[2], other)


class ErrorsTest(BoardTest):

    def test_of_a_board_that_is_made(self):
        for wrong in NO_TUPLES + ((0,), (4,), (True,), (1, None), [1]):
            for placing in (((0,),), None):
                self.assert_raised(InvalidWishes, {"value": wrong}, Board, THREE, wrong, placing)
        for wrong in NO_TUPLES + ((), ((0,), (1,)), ((),), ((3,),), ((1, 0),), ((True,),), ([0],), (0,)):
            self.assert_raised(InvalidPlacing, {"value": wrong}, Board, THREE, (1,), wrong)
        self.assert_raised(InvalidPlacing, {"value": ()}, Board, cluster=THREE, wishes=(1,), placing=())

    def test_any_value_that_is_no_deed(self):
        board = Board(THREE, (1, 2), ((0,), (0, 1)))
        deeds = (("store", 1, 2, 3), ("room", 0, 1), ("rate", 0, 1), ("wish", 0, 1), ("piece", 1, (0,)), ("settle",))
        wrongs = list(NO_TUPLES) + list(NO_INTEGERS) + [
            (), ("",), ("rack", 0, 1), ("undo",), ("redo",), ("Settle",), (("settle",),), ("settle", 0), ("settle", ()),
            ("settle", None), deep("settle", 9), ("none",), (THREE,), ("store", 1, 2), ("wish", (0,), 1), (None, 0, 1),
            ("room", -1, 0), ("room", 3, 0), ("room", 0, 100), ("room", 0, -1), ("rate", 0, 0), ("rate", 0, 9),
            ("rate", 3, 1), ("wish", 2, 1), ("wish", -1, 1), ("wish", 0, 0), ("wish", 0, 4), ("store", 100, 0, 1),
            ("store", -1, 0, 1), ("store", 0, 100, 1), ("store", 0, 0, 0), ("store", 0, 0, 9), ("piece", 0, (0,)),
            ("piece", 4, (0,)), ("piece", 1, ()), ("piece", 1, (3,)), ("piece", 1, (1, 0)), ("piece", 1, (0, 0)),
            ("piece", 1, [0]), ("piece", 1, (True,)), ("piece", 1, 0), ("piece", 1, None), ("piece", 1, ((0,),)),
        ]
        for deed in deeds:
            wrongs += [list(deed), deed[:-1] + ([deed[-1]],), deed + (0,), (deed,)]
            for place in range(1, len(deed)):
                wrongs += [deed[:place] + (value,) + deed[place + 1:]
                           for value in NO_INTEGERS if not (deed[0] == "piece" and place == 2 and value == (1,))]
            if len(deed) > 1:
                wrongs.append(deed[:-1])
        for wrong in wrongs:
            self.assert_refused(board, InvalidDeed, {"value": wrong}, board.deed, wrong)

    def test_eight_stores_and_forty_pieces(self):
        board = Board(EIGHT, (1,) * 39, ((0,),) * 39)
        deed = ("store", 1, 1, 1)
        self.assert_refused(board, InvalidDeed, {"value": deed}, board.deed, deed)
        board.deed(("piece", 1, (7,)))
        deed = ("piece", 1, (7,))
        self.assert_refused(board, InvalidDeed, {"value": deed}, board.deed, deed)
        board.undo()
        board.deed(deed)
        board = Board(Cluster((0,) * 7, (9,) * 7, (1,) * 7), (), ())
        board.deed(("store", 99, 99, 8))
        self.assert_refused(board, InvalidDeed, {"value": ("store", 0, 0, 1)}, board.deed, ("store", 0, 0, 1))

    def test_a_deed_without_a_goal(self):
        board = Board(Cluster((0,), (0,), (1,)), (1,), ((0,),))
        self.assert_refused(board, Undefined, {"what": "goal"}, board.deed, ("settle",))
        self.assert_refused(board, InvalidDeed, {"value": ("settle", 1)}, board.deed, ("settle", 1))


if __name__ == "__main__":
    unittest.main()
