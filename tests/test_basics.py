"""Promises [1] and [2] for all that has landed, and the names of the interface."""

import copy
import doctest
import importlib
import inspect
import pathlib
import unittest

from helper import (MovedTest, NO_INTEGERS, NO_TUPLES, THREE, large_changes, large_worlds, small_changes, small_worlds,
                    wrong_pairs)
from movedwhole.boards import Board
from movedwhole.cheapest import fewest_new, fewest_placing
from movedwhole.clusters import Cluster
from movedwhole.desk import Desk, replayed_desk
from movedwhole.errors import MoveError
from movedwhole.evenplans import any_plan, even_plan
from movedwhole.halves import halved
from movedwhole.histories import board_paper, paper_end, paper_holds
from movedwhole.intakes import gate_paper, gate_shown, gentle_placing, intake, least_intake
from movedwhole.journals import first_wrong_line, in_force, stands_by
from movedwhole.journaltexts import read_journal, write_journal
from movedwhole.moves import busiest, first_wrong_move, loads, pairs_of
from movedwhole.placings import first_breach, is_placing, is_wishes, new_copies
from movedwhole.plans import first_excess, plan_length
from movedwhole.prices import price_paper, shown_by
from movedwhole.rooming import lacks_room, lot_lacking, some_placing
from movedwhole.runs import Run, resumed
from movedwhole.sources import busy_lot, chosen_moves, least_busiest, lot_value_of
from movedwhole.standstills import least_without, moves_without, value_without, waiting
from movedwhole.tables import table_plan
from movedwhole.tries import fewest_rounds, inner_bound
from movedwhole.worldtexts import read_world, write_world

FUNCTIONS = {
    "placings": {"is_wishes": ["value"], "is_placing": ["cluster", "value", "many"],
                 "first_breach": ["cluster", "wishes", "placing"], "new_copies": ["before", "after"]},
    "worldtexts": {"write_world": ["cluster", "wishes", "placing"], "read_world": ["text"]},
    "rooming": {"lacks_room": ["cluster", "wishes", "lot"], "lot_lacking": ["cluster", "wishes"],
                "some_placing": ["cluster", "wishes"]},
    "cheapest": {"fewest_placing": ["cluster", "wishes", "before"], "fewest_new": ["cluster", "wishes", "before"]},
    "prices": {"shown_by": ["cluster", "wishes", "before", "paper"], "price_paper": ["cluster", "wishes", "before"]},
    "moves": {"first_wrong_move": ["before", "after", "moves"], "loads": ["many", "pairs"],
              "busiest": ["rates", "pairs"], "pairs_of": ["moves"]},
    "sources": {"least_busiest": ["cluster", "before", "after"], "chosen_moves": ["cluster", "before", "after"],
                "lot_value_of": ["cluster", "before", "after", "lot"], "busy_lot": ["cluster", "before", "after"]},
    "plans": {"first_excess": ["rates", "pairs", "plan"], "plan_length": ["plan"]},
    "halves": {"halved": ["many", "pairs"]},
    "tables": {"table_plan": ["leaving", "entering", "pairs"]},
    "evenplans": {"even_plan": ["rates", "pairs"], "any_plan": ["rates", "pairs"]},
    "tries": {"fewest_rounds": ["rates", "pairs"], "inner_bound": ["rates", "pairs", "lot"]},
    "journals": {"first_wrong_line": ["cluster", "journal"], "stands_by": ["cluster", "journal"],
                 "in_force": ["cluster", "journal"]},
    "runs": {"resumed": ["cluster", "wishes", "journal"]},
    "journaltexts": {"write_journal": ["journal"], "read_journal": ["cluster", "text"]},
    "intakes": {"intake": ["rates", "before", "after"], "least_intake": ["cluster", "wishes", "before"],
                "gentle_placing": ["cluster", "wishes", "before"],
                "gate_shown": ["cluster", "wishes", "before", "most", "paper"],
                "gate_paper": ["cluster", "wishes", "before", "most"]},
    "standstills": {"waiting": ["cluster", "before", "after", "still"],
                    "moves_without": ["cluster", "before", "after", "still"],
                    "least_without": ["cluster", "before", "after", "still"],
                    "value_without": ["cluster", "before", "after", "still", "lot"]},
    "histories": {"board_paper": ["board"], "paper_holds": ["text"], "paper_end": ["text"]},
    "desk": {"replayed_desk": ["cluster", "wishes", "placing", "lines"]},
}
METHODS = {
    "clusters": {"Cluster": {"__init__": ["racks", "rooms", "rates"], "__eq__": ["other"],
                             "with_store": ["rack", "room", "rate"], "with_room": ["store", "room"],
                             "with_rack": ["store", "rack"], "with_rate": ["store", "rate"]}},
    "runs": {"Run": {"__init__": ["cluster", "wishes", "before"], "journal": [], "disk": [], "left": [],
                     "is_awake": [], "go": ["outcomes", "steps"], "wake": [], "change": ["cluster", "wishes"],
                     "rounds": []}},
    "boards": {"Board": {"__init__": ["cluster", "wishes", "placing"], "world": [], "goal": [], "deed": ["deed"],
                         "undo": [], "redo": [], "done": []}},
    "desk": {"Desk": {"__init__": ["cluster", "wishes", "placing"], "run": ["line"]}},
}


class InterfaceTest(unittest.TestCase):

    def test_functions_with_their_parameters_in_their_files(self):
        for name, functions in FUNCTIONS.items():
            module = importlib.import_module(f"movedwhole.{name}")
            for word, parameters in functions.items():
                function = getattr(module, word)
                self.assertEqual(function.__module__, module.__name__)
                self.assertEqual(list(inspect.signature(function).parameters), parameters)

    def test_methods_with_their_parameters_in_their_classes(self):
        for name, classes in METHODS.items():
            module = importlib.import_module(f"movedwhole.{name}")
            for word, methods in classes.items():
                self.assertEqual(getattr(module, word).__module__, module.__name__)
                for method, parameters in methods.items():
                    function = vars(getattr(module, word))[method]
                    self.assertEqual(list(inspect.signature(function).parameters), ["self"] + parameters)
                    defaults = [told.default for told in inspect.signature(function).parameters.values()]
                    self.assertEqual([told for told in defaults if told is not inspect.Parameter.empty],
                                     [None] * (method == "go"))


class ReadmeTest(unittest.TestCase):

    def test_its_example_answers_as_it_says(self):
        path = pathlib.Path(__file__).resolve().parent.parent / "README.md"
        found = doctest.testfile(str(path), module_relative=False)
        self.assertGreater(found.attempted, 0)
        self.assertEqual(found.failed, 0)


def all_answers(calls):
    """What the calls (function, arguments) answer; errors by their kinds and attributes."""
    found = []
    for call, arguments in calls:
        try:
            found.append(call(*arguments))
        except MoveError as error:
            found.append((type(error), vars(error)))
    return found


def answers(cluster, wishes, before, paper):
    """What all functions of a world answer."""
    return all_answers((
        (is_wishes, (wishes,)), (is_placing, (cluster, before, 2)), (first_breach, (cluster, wishes, before)),
        (lot_lacking, (cluster, wishes)), (some_placing, (cluster, wishes)),
        (lacks_room, (cluster, wishes, paper)), (fewest_placing, (cluster, wishes, before)),
        (fewest_new, (cluster, wishes, before)), (shown_by, (cluster, wishes, before, paper)),
        (price_paper, (cluster, wishes, before)), (least_intake, (cluster, wishes, before)),
        (gentle_placing, (cluster, wishes, before)), (gate_shown, (cluster, wishes, before, 1, paper)),
        (gate_paper, (cluster, wishes, before, 1)), (gate_paper, (cluster, wishes, before, paper)),
        (run_answers, (cluster, wishes, before, paper)), (resumed, (cluster, wishes, paper)),
        (first_wrong_line, (cluster, paper)), (stands_by, (cluster, paper)), (in_force, (cluster, paper)),
        (board_answers, (cluster, wishes, before, paper)), (desk_answers, (cluster, wishes, before)),
    ))


def run_answers(cluster, wishes, before, value):
    """What a run answers, with the value as outcomes, as steps and as wishes."""
    run = Run(cluster, wishes, before)
    refused = all_answers(((run.go, (value,)), (run.go, ((), value)), (run.change, (cluster, value)), (run.wake, ())))
    found = [answer and answer[0].__name__ for answer in refused]
    while run.left():
        found.append(run.go(("done",) * len(run.left()[0]), 5))
        if not run.is_awake():
            run.wake()
        found += [run.journal(), run.disk(), run.left(), run.rounds()]
    text = write_journal(run.journal())
    return tuple(found) + (text, read_journal(cluster, text), resumed(cluster, wishes, run.journal()).disk())


def board_answers(cluster, wishes, before, value):
    """What a board answers, with the value as a deed, and what its paper tells."""
    board = Board(cluster, wishes, before)
    deeds = (("room", 0, 0), ("wish", 0, 1), ("piece", 1, (0,)), ("settle",), value, ("store", 7, 9, 2))
    found = []
    for call, arguments in [(board.deed, (deed,)) for deed in deeds] + [(board.undo, ())] * 3 + [(board.redo, ())] * 2:
        answer = all_answers(((call, arguments),))[0]
        found += [answer[0] if isinstance(answer[0], str) else answer[0].__name__, board.goal(), board.done()]
    text = board_paper(board)
    return tuple(found) + (text, int(paper_holds(text)), paper_end(text)[1:], board.world()[1:])


def desk_answers(cluster, wishes, before):
    """What a desk answers to lines of all kinds."""
    desk = Desk(cluster, wishes, before)
    found = []
    for line in ("breach", "lacking", "new", "rounds", "lot", "where 0", "room 0 0", "rack 0 7", "settle", "piece 1 0",
                 "undo", "redo", "x", "wish 0", "rate 0 9"):
        answer = all_answers(((desk.run, (line,)),))[0]
        found += [answer if isinstance(answer, str) else answer[0].__name__, desk.wishes, desk.placing, desk.lines]
    return tuple(found) + replayed_desk(cluster, wishes, before, desk.lines).lines


def change_answers(cluster, before, after, value):
    """What all functions of a change answer, with the value as moves and as a lot."""
    change = (cluster, before, after)
    return all_answers((
        (first_wrong_move, (before, after, value)), (least_busiest, change), (chosen_moves, change),
        (lot_value_of, change + (value,)), (busy_lot, change), (intake, (cluster.rates, before, after)),
        (waiting, change + ((0,),)), (moves_without, change + ((0,),)), (least_without, change + ((0,),)),
        (value_without, change + ((0,), value)), (value_without, change + (value, (1,))), (waiting, change + (value,)),
    ))


def pair_answers(rates, pairs, value):
    """What all functions of pairs answer, with the value as a plan and as a lot."""
    return all_answers((
        (loads, (len(rates), pairs)), (busiest, (rates, pairs)), (first_excess, (rates, pairs, value)),
        (halved, (len(rates), pairs)), (table_plan, (rates, rates[::-1], pairs)), (even_plan, (rates, pairs)),
        (any_plan, (rates, pairs)), (fewest_rounds, (rates, pairs)), (inner_bound, (rates, pairs, value)),
    ))


class UnchangedTest(MovedTest):

    def test_no_argument_is_changed(self):
        lists = [[0, 1], [[0]], [], [[0], (1,)]]
        values = lists + list(NO_TUPLES) + list(NO_INTEGERS)
        for wrong in values:
            kept = copy.deepcopy(wrong)
            for arguments in ((wrong, ((0,), (1,)), ((0, 0), (0, 0, 0))), ((1, 2), wrong, ((0, 0), (0, 0, 0))),
                              ((1, 2), ((0,), (1,)), wrong), ((wrong,), (wrong,), (wrong, wrong))):
                answers(THREE, *arguments)
            self.assertEqual(wrong, kept)
            self.assertEqual(THREE, Cluster((0, 1, 2), (9, 9, 9), (2, 2, 2)))

    def test_equal_calls_return_equal_results(self):
        worlds = list(small_worlds(41, 60)) + list(large_worlds(42, 5))
        for cluster, wishes, before in worlds:
            paper = ((1,) * len(wishes), (1,) * cluster.store_count)
            first = answers(cluster, wishes, before, paper)
            alike = Cluster(list(cluster.racks), list(cluster.rooms), list(cluster.rates))
            second = answers(alike, tuple(list(wishes)), tuple(list(before)), tuple(list(paper)))
            self.assertEqual(first, second)
            self.assertEqual(alike, cluster)

    def test_no_moves_pairs_plans_and_lots_are_changed(self):
        for wrong in wrong_pairs(3) + [[[0, 1], [1, 2]], [(0, 1)], [0, [1]]] + list(NO_INTEGERS):
            kept = copy.deepcopy(wrong)
            change_answers(THREE, ((0,), (1,)), ((1,), (2,)), wrong)
            pair_answers((2, 2, 2), wrong, (0, 1))
            pair_answers((1, 2, 3), ((0, 1), (1, 2)), wrong)
            self.assertEqual(wrong, kept)

    def test_equal_calls_of_changes_and_pairs_return_equal_results(self):
        for cluster, before, after in list(small_changes(44, 100)) + list(large_changes(45, 3)):
            moves = chosen_moves(cluster, before, after)
            first = change_answers(cluster, before, after, moves)
            alike = Cluster(list(cluster.racks), list(cluster.rooms), list(cluster.rates))
            second = change_answers(alike, tuple(list(before)), tuple(list(after)), tuple(list(moves)))
            self.assertEqual(first, second)
            pairs = pairs_of(moves)
            plan = any_plan(cluster.rates, pairs)
            first = pair_answers(cluster.rates, pairs, plan)
            self.assertEqual(first, pair_answers(tuple(list(cluster.rates)), tuple(list(pairs)), tuple(list(plan))))
            self.assertEqual(plan_length(plan), plan_length(tuple(list(plan))))

    def test_results_are_plain_and_do_not_change(self):
        for cluster, wishes, before in small_worlds(43, 60):
            first = answers(cluster, wishes, before, None)
            kept = copy.deepcopy(first)
            text = write_world(cluster, wishes, before)
            again, read_wishes, read_before = read_world(text)
            self.assertEqual(answers(again, read_wishes, read_before, None), kept)
            self.assertEqual(first, kept)
            self.assert_plain(new_copies(before, before))
            for answer in first:
                if not isinstance(answer, tuple) or answer and isinstance(answer[0], type):
                    continue
                self.assert_plain(answer)


if __name__ == "__main__":
    unittest.main()
