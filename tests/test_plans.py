"""Promise [13], and [1], [2] and [4] as they bear on it."""

import itertools
import random
import unittest

from helper import (MovedTest, NO_INTEGERS, NO_TUPLES, deep, has_excess, load_of, some_pairs, some_rates, wrong_pairs)
from movedwhole.errors import InvalidPairs, InvalidPlan
from movedwhole.plans import first_excess, plan_length


def excess_by_its_words(rates, pairs, plan):
    """The first (round, store) with an excess, looked for round by round and store by store."""
    for number in range(max(plan, default=0) + 1):
        there = [pair for place, pair in enumerate(pairs) if plan[place] == number]
        for store, rate in enumerate(rates):
            if load_of(store, there) > rate:
                return (number, store)
    return None


class FirstExcessTest(MovedTest):

    def assert_excess(self, rates, pairs, plan, expected):
        """That the answer is as expected, passed by position and by name."""
        found = first_excess(rates, pairs, plan)
        self.assert_plain(found)
        self.assertEqual(found, expected)
        self.assertEqual(first_excess(rates=rates, pairs=pairs, plan=plan), expected)

    def test_plans_told_by_hand(self):
        pairs = ((0, 1), (1, 2), (2, 0), (0, 1))
        self.assert_excess((1, 1, 1), pairs, (0, 1, 2, 3), None)
        self.assert_excess((2, 2, 2), pairs, (0, 0, 0, 1), None)
        self.assert_excess((2, 2, 2), pairs, (0, 0, 0, 0), (0, 0))
        self.assert_excess((3, 2, 2), pairs, (0, 0, 0, 0), (0, 1))
        self.assert_excess((3, 3, 1), pairs, (0, 0, 0, 0), (0, 2))
        self.assert_excess((3, 3, 2), pairs, (0, 0, 0, 0), None)

    def test_without_pairs(self):
        self.assert_excess((1,), (), (), None)
        self.assert_excess((8,) * 8, (), (), None)

    def test_the_first_round_comes_ahead_of_the_least_store(self):
        pairs = ((0, 1), (0, 1), (2, 3), (2, 3))
        self.assert_excess((1, 1, 1, 1), pairs, (1, 1, 0, 0), (0, 2))
        self.assert_excess((1, 1, 1, 1), pairs, (0, 0, 1, 1), (0, 0))
        self.assert_excess((1, 1, 1, 1), pairs, (7, 7, 0, 1), (7, 0))
        self.assert_excess((2, 1, 1, 1), pairs, (7, 7, 0, 1), (7, 1))

    def test_a_store_that_gives_and_takes_does_both(self):
        self.assert_excess((1, 1, 1), ((0, 1), (1, 2)), (0, 0), (0, 1))
        self.assert_excess((1, 1), ((0, 1), (1, 0)), (4, 4), (4, 0))

    def test_all_small_plans(self):
        chance = random.Random(71)
        for many in range(5):
            for _ in range(6):
                stores = chance.randint(2, 4)
                pairs, rates = some_pairs(chance, stores, many), some_rates(chance, stores, (1, 1, 2, 3))
                for plan in itertools.product(range(3), repeat=many):
                    self.assert_excess(rates, pairs, plan, excess_by_its_words(rates, pairs, plan))
                    self.assertEqual(first_excess(rates, pairs, plan) is not None, has_excess(rates, pairs, plan))

    def test_two_hundred_and_forty_pairs_in_four_hundred_rounds(self):
        chance = random.Random(72)
        for rounds in (1, 20, 60, 240, 400):
            for _ in range(5):
                pairs = some_pairs(chance, 8, 240)
                rates = some_rates(chance, 8)
                plan = tuple(chance.randint(0, rounds) for pair in pairs)
                self.assert_excess(rates, pairs, plan, excess_by_its_words(rates, pairs, plan))

    def test_wrong_pairs_come_ahead_of_wrong_plans(self):
        for wrong in wrong_pairs(3):
            for plan in ((), (0,), (0, 0), None, (-1,)):
                self.assert_raised(InvalidPairs, {"value": wrong}, first_excess, (1, 1, 1), wrong, plan)
        self.assert_raised(InvalidPairs, {"value": ((0, 1),)}, first_excess, (1,), pairs=((0, 1),), plan=(0,))

    def test_values_that_are_no_plans(self):
        wrongs = NO_TUPLES + ((), (0,), (0, 0, 0), [0, 0], (0, -1), (-1, 0), ((0,), 0), ((0, 0),), deep((0, 0), 9))
        for wrong in wrongs + tuple((0, wrong) for wrong in NO_INTEGERS) + tuple((wrong, 0) for wrong in NO_INTEGERS):
            self.assert_raised(InvalidPlan, {"value": wrong}, first_excess, (1, 1), ((0, 1), (1, 0)), wrong)
        for wrong in NO_TUPLES + ((0,), [], ((),)):
            self.assert_raised(InvalidPlan, {"value": wrong}, first_excess, (1, 1), (), plan=wrong)


class PlanLengthTest(MovedTest):

    def test_plans_told_by_hand(self):
        for plan, expected in (((), 0), ((0,), 1), ((3,), 4), ((0, 2, 1), 3), ((2, 0, 0), 3), ((1, 1), 2),
                               ((400,) * 240, 401)):
            self.assertTrue(self.same(plan_length(plan), expected))
            self.assertEqual(plan_length(plan=plan), expected)


if __name__ == "__main__":
    unittest.main()
