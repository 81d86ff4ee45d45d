"""Promises [1] and [2] for all that has landed, and the names of the interface."""

import copy
import doctest
import importlib
import inspect
import pathlib
import unittest

from helper import MovedTest, NO_INTEGERS, NO_TUPLES, THREE, large_worlds, small_worlds
from movedwhole.cheapest import fewest_new, fewest_placing
from movedwhole.clusters import Cluster
from movedwhole.errors import MoveError
from movedwhole.placings import first_breach, is_placing, is_wishes, new_copies
from movedwhole.prices import price_paper, shown_by
from movedwhole.rooming import lacks_room, lot_lacking, some_placing
from movedwhole.worldtexts import read_world, write_world

FUNCTIONS = {
    "placings": {"is_wishes": ["value"], "is_placing": ["cluster", "value", "many"],
                 "first_breach": ["cluster", "wishes", "placing"], "new_copies": ["before", "after"]},
    "worldtexts": {"write_world": ["cluster", "wishes", "placing"], "read_world": ["text"]},
    "rooming": {"lacks_room": ["cluster", "wishes", "lot"], "lot_lacking": ["cluster", "wishes"],
                "some_placing": ["cluster", "wishes"]},
    "cheapest": {"fewest_placing": ["cluster", "wishes", "before"], "fewest_new": ["cluster", "wishes", "before"]},
    "prices": {"shown_by": ["cluster", "wishes", "before", "paper"], "price_paper": ["cluster", "wishes", "before"]},
}
METHODS = {
    "clusters": {"Cluster": {"__init__": ["racks", "rooms", "rates"], "__eq__": ["other"],
                             "with_store": ["rack", "room", "rate"], "with_room": ["store", "room"],
                             "with_rack": ["store", "rack"], "with_rate": ["store", "rate"]}},
}


class InterfaceTest(unittest.TestCase):

    def test_functions_with_their_parameters_in_their_files(self):
        for name, functions in FUNCTIONS.items():
            module = importlib.import_module(f"movedwhole.{name}")
            for word, parameters in functions.items():
                function = getattr(module, word)
                self.assertEqual(function.__module__, module.__name__)
                self.assertEqual(list(inspect.signature(function).parameters), parameters)

    def test_methods_with_their_parameters_in_their_classes(self):
        for name, classes in METHODS.items():
            module = importlib.import_module(f"movedwhole.{name}")
            for word, methods in classes.items():
                self.assertEqual(getattr(module, word).__module__, module.__name__)
                for method, parameters in methods.items():
                    function = vars(getattr(module, word))[method]
                    self.assertEqual(list(inspect.signature(function).parameters), ["self"] + parameters)


class ReadmeTest(unittest.TestCase):

    def test_its_example_answers_as_it_says(self):
        path = pathlib.Path(__file__).resolve().parent.parent / "README.md"
        found = doctest.testfile(str(path), module_relative=False)
        self.assertGreater(found.attempted, 0)
        self.assertEqual(found.failed, 0)


def answers(cluster, wishes, before, paper):
    """What all functions of a world answer; errors by their kinds and attributes."""
    found = []
    for call, arguments in (
            (is_wishes, (wishes,)), (is_placing, (cluster, before, 2)), (first_breach, (cluster, wishes, before)),
            (lot_lacking, (cluster, wishes)), (some_placing, (cluster, wishes)),
            (lacks_room, (cluster, wishes, paper)), (fewest_placing, (cluster, wishes, before)),
            (fewest_new, (cluster, wishes, before)), (shown_by, (cluster, wishes, before, paper)),
            (price_paper, (cluster, wishes, before))):
        try:
            found.append(call(*arguments))
        except MoveError as error:
            found.append((type(error), vars(error)))
    return found


class UnchangedTest(MovedTest):

    def test_no_argument_is_changed(self):
        lists = [[0, 1], [[0]], [], [[0], (1,)]]
        values = lists + list(NO_TUPLES) + list(NO_INTEGERS)
        for wrong in values:
            kept = copy.deepcopy(wrong)
            for arguments in ((wrong, ((0,), (1,)), ((0, 0), (0, 0, 0))), ((1, 2), wrong, ((0, 0), (0, 0, 0))),
                              ((1, 2), ((0,), (1,)), wrong), ((wrong,), (wrong,), (wrong, wrong))):
                answers(THREE, *arguments)
            self.assertEqual(wrong, kept)
            self.assertEqual(THREE, Cluster((0, 1, 2), (9, 9, 9), (2, 2, 2)))

    def test_equal_calls_return_equal_results(self):
        worlds = list(small_worlds(41, 60)) + list(large_worlds(42, 5))
        for cluster, wishes, before in worlds:
            paper = ((1,) * len(wishes), (1,) * cluster.store_count)
            first = answers(cluster, wishes, before, paper)
            alike = Cluster(list(cluster.racks), list(cluster.rooms), list(cluster.rates))
            second = answers(alike, tuple(list(wishes)), tuple(list(before)), tuple(list(paper)))
            self.assertEqual(first, second)
            self.assertEqual(alike, cluster)

    def test_results_are_plain_and_do_not_change(self):
        for cluster, wishes, before in small_worlds(43, 60):
            first = answers(cluster, wishes, before, None)
            kept = copy.deepcopy(first)
            text = write_world(cluster, wishes, before)
            again, read_wishes, read_before = read_world(text)
            self.assertEqual(answers(again, read_wishes, read_before, None), kept)
            self.assertEqual(first, kept)
            self.assert_plain(new_copies(before, before))
            for answer in first:
                if not isinstance(answer, tuple) or answer and isinstance(answer[0], type):
                    continue
                self.assert_plain(answer)


if __name__ == "__main__":
    unittest.main()
