"""Promise [14] for tables, and [1], [2] and [4] as they bear on it."""

import itertools
import random
import unittest

from helper import MovedTest, ceiling, some_pairs, some_rates, wrong_pairs
from movedwhole.errors import InvalidPairs
from movedwhole.plans import plan_length
from movedwhole.tables import table_plan


def too_often(limits, stores, plan):
    """Whether in some round some store occurs among stores more often than its limit."""
    there = list(zip(plan, stores))
    return any(there.count(seat) > limits[seat[1]] for seat in set(there))


def keeps(leaving, entering, pairs, plan):
    """Whether no store gives more than leaving or takes more than entering in a round."""
    givers, takers = [pair[0] for pair in pairs], [pair[1] for pair in pairs]
    return not too_often(leaving, givers, plan) and not too_often(entering, takers, plan)


class TablePlanTest(MovedTest):

    def assert_table(self, leaving, entering, pairs):
        """That the plan keeps to both limits and has just as many rounds as the store needs that needs most."""
        plan = table_plan(leaving, entering, pairs)
        self.assert_plain(plan)
        self.assertEqual(len(plan), len(pairs))
        self.assertTrue(all(number >= 0 for number in plan))
        self.assertTrue(keeps(leaving, entering, pairs, plan))
        needed = [ceiling(sum(pair[0] == store for pair in pairs), limit) for store, limit in enumerate(leaving)]
        needed += [ceiling(sum(pair[1] == store for pair in pairs), limit) for store, limit in enumerate(entering)]
        self.assertEqual(plan_length(plan), max(needed))
        self.assertEqual(table_plan(leaving=leaving, entering=entering, pairs=tuple(list(pairs))), plan)
        return max(needed)

    def test_no_pairs(self):
        for many in range(1, 9):
            self.assertEqual(table_plan((1,) * many, (8,) * many, ()), ())

    def test_pairs_told_by_hand(self):
        self.assertEqual(self.assert_table((1, 1), (1, 1), ((0, 1), (1, 0))), 1)
        self.assertEqual(self.assert_table((1, 1), (1, 1), ((0, 1), (0, 1))), 2)
        self.assertEqual(self.assert_table((2, 1), (1, 1), ((0, 1), (0, 1))), 2)
        self.assertEqual(self.assert_table((2, 1), (1, 2), ((0, 1), (0, 1))), 1)
        self.assertEqual(self.assert_table((1, 1, 1), (1, 1, 1), ((0, 1), (1, 2), (2, 0))), 1)
        self.assertEqual(self.assert_table((1, 1, 1), (1, 1, 1), ((0, 1), (0, 2), (1, 2), (1, 0), (2, 0), (2, 1))), 2)

    def test_both_limits_count_apart(self):
        pairs = ((0, 1),) * 6 + ((1, 0),) * 2
        self.assertEqual(self.assert_table((2, 1), (1, 3), pairs), 3)
        self.assertEqual(self.assert_table((3, 1), (1, 1), pairs), 6)
        self.assertEqual(self.assert_table((1, 8), (8, 8), pairs), 6)
        self.assertEqual(self.assert_table((8, 1), (8, 8), pairs), 2)
        self.assertEqual(self.assert_table((8, 8), (1, 8), pairs), 2)

    def test_pairs_in_each_other_s_way(self):
        pairs = ((0, 4), (1, 4), (1, 5), (2, 5), (2, 6), (0, 6), (3, 4), (0, 7), (3, 5), (1, 6), (2, 7), (3, 7))
        for order in range(len(pairs)):
            self.assertEqual(self.assert_table((1,) * 8, (1,) * 8, pairs[order:] + pairs[:order]), 3)

    def test_no_plan_of_few_pairs_has_fewer_rounds(self):
        chance = random.Random(91)
        for _ in range(60):
            many, stores = chance.randint(1, 5), chance.randint(2, 4)
            pairs = some_pairs(chance, stores, many)
            leaving, entering = some_rates(chance, stores, (1, 1, 2)), some_rates(chance, stores, (1, 1, 2))
            plans = [plan for plan in itertools.product(range(many), repeat=many)
                     if keeps(leaving, entering, pairs, plan)]
            self.assertEqual(min(plan_length(plan) for plan in plans), self.assert_table(leaving, entering, pairs))

    def test_all_of_few_pairs(self):
        kinds = list(itertools.permutations(range(3), 2))
        for many in range(5):
            for pairs in itertools.product(kinds, repeat=many):
                self.assert_table((1, 2, 1), (2, 1, 1), pairs)

    def test_pairs_by_chance_to_two_hundred_and_forty(self):
        chance = random.Random(92)
        for many in (1, 2, 5, 8, 30, 119, 240):
            for stores in range(2, 9):
                for _ in range(5):
                    leaving, entering = some_rates(chance, stores), some_rates(chance, stores)
                    self.assert_table(leaving, entering, some_pairs(chance, stores, many))

    def test_two_hundred_and_forty_pairs_of_rate_one(self):
        every = tuple(itertools.permutations(range(8), 2))
        self.assertEqual(self.assert_table((1,) * 8, (1,) * 8, (every * 5)[:240]), 35)
        self.assertEqual(self.assert_table((1,) * 8, (1,) * 8, ((3, 5),) * 240), 240)
        self.assertEqual(self.assert_table((8,) * 8, (1,) * 8, ((3, 5),) * 240), 240)
        self.assertEqual(self.assert_table((8,) * 8, (8,) * 8, ((3, 5),) * 240), 30)

    def test_values_that_are_no_pairs(self):
        for many in (2, 3, 8):
            for wrong in wrong_pairs(many):
                self.assert_raised(InvalidPairs, {"value": wrong}, table_plan, (1,) * many, (2,) * many, wrong)
        self.assert_raised(InvalidPairs, {"value": ((0, 1),)}, table_plan, (1,), (1,), pairs=((0, 1),))


if __name__ == "__main__":
    unittest.main()
