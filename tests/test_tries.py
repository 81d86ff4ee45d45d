"""Promise [15] for tries, and [1], [2] and [4] as they bear on it."""

import itertools
import random
import unittest

from helper import (MovedTest, NO_TUPLES, all_lots, busiest_of, ceiling, deep, has_excess, some_pairs, some_rates,
                    wrong_pairs)
from movedwhole.errors import InvalidLot, InvalidPairs, TooMany
from movedwhole.evenplans import any_plan, even_plan
from movedwhole.plans import plan_length
from movedwhole.tries import fewest_rounds, inner_bound

RING = ((0, 1), (1, 2), (2, 0))
STAR = ((0, 1), (0, 2), (0, 3), (3, 1))


class FewestRoundsTest(MovedTest):

    def assert_fewest(self, rates, pairs, expected):
        """That so many rounds are told, passed by position and by name."""
        self.assertTrue(self.same(fewest_rounds(rates, pairs), expected), (rates, pairs))
        self.assertEqual(fewest_rounds(rates=rates, pairs=pairs), expected)

    def test_pairs_told_by_hand(self):
        self.assert_fewest((1,), (), 0)
        self.assert_fewest((1,) * 8, (), 0)
        self.assert_fewest((1, 1), ((0, 1),), 1)
        self.assert_fewest((1, 1), ((0, 1), (1, 0)), 2)
        self.assert_fewest((8, 8), ((0, 1),) * 8, 1)
        self.assert_fewest((8, 1), ((0, 1),) * 8, 8)
        self.assert_fewest((1,) * 4, ((0, 1), (2, 3), (1, 2), (3, 0)), 2)

    def test_rings_that_need_more_than_their_busiest_store(self):
        self.assert_fewest((1, 1, 1), RING, 3)
        self.assert_fewest((1, 1, 1), RING * 2, 6)
        self.assert_fewest((2, 1, 1), RING, 2)
        self.assert_fewest((2, 2, 2), RING * 2, 2)
        self.assert_fewest((3, 3, 3), RING * 2, 2)
        self.assert_fewest((1,) * 5, tuple((store, (store + 1) % 5) for store in range(5)), 3)
        self.assert_fewest((1,) * 7, tuple((store, (store + 1) % 7) for store in range(7)), 3)
        self.assert_fewest((1,) * 8, tuple((store, (store + 1) % 8) for store in range(8)), 2)

    def test_against_all_plans(self):
        chance = random.Random(111)
        for many in range(6):
            for _ in range(40 if many < 5 else 12):
                stores = chance.randint(2, 5)
                pairs, rates = some_pairs(chance, stores, many), some_rates(chance, stores, (1, 1, 2, 3))
                plans = itertools.product(range(many), repeat=many)
                lengths = [plan_length(plan) for plan in plans if not has_excess(rates, pairs, plan)]
                self.assert_fewest(rates, pairs, min(lengths))

    def test_eight_pairs_between_what_must_be_and_what_is_made(self):
        chance = random.Random(112)
        for _ in range(150):
            stores = chance.randint(2, 8)
            pairs, rates = some_pairs(chance, stores, 8), some_rates(chance, stores)
            found = fewest_rounds(rates, pairs)
            self.assertLessEqual(busiest_of(rates, pairs), found)
            self.assertLessEqual(found, plan_length(any_plan(rates, pairs)))
            even = tuple(2 * ((rate + 1) // 2) for rate in rates)
            self.assert_fewest(even, pairs, plan_length(even_plan(even, pairs)))

    def test_wrong_pairs_come_ahead_of_too_many(self):
        for wrong in wrong_pairs(3) + [((0, 1),) * 8 + ((1, 1),), ((0, 1),) * 9 + ((0, 3),), (0,) * 9]:
            self.assert_raised(InvalidPairs, {"value": wrong}, fewest_rounds, (1, 1, 1), wrong)
        self.assert_raised(InvalidPairs, {"value": ((0, 1),)}, fewest_rounds, rates=(1,), pairs=((0, 1),))

    def test_more_than_eight_pairs(self):
        self.assert_fewest((1, 1, 1), ((0, 1),) * 8, 8)
        for many in (9, 10, 240):
            self.assert_raised(TooMany, {"what": "pairs"}, fewest_rounds, (8, 8), ((0, 1),) * many)
            self.assert_raised(TooMany, {"what": "pairs"}, fewest_rounds, rates=(1, 1), pairs=((1, 0),) * many)


class InnerBoundTest(MovedTest):

    def assert_bound(self, rates, pairs, lot, expected):
        """That the bound is as expected, passed by position and by name."""
        self.assertTrue(self.same(inner_bound(rates, pairs, lot), expected), (rates, pairs, lot))
        self.assertEqual(inner_bound(rates=rates, pairs=pairs, lot=lot), expected)

    def test_bounds_told_by_hand(self):
        self.assert_bound((1, 1, 1), RING, (0, 1, 2), 3)
        self.assert_bound((1, 1, 1), RING, (0, 1), 1)
        self.assert_bound((2, 1, 1), RING, (0, 1, 2), 2)
        self.assert_bound((3, 1, 1), RING, (0, 1, 2), 2)
        self.assert_bound((3, 3, 1), RING, (0, 1, 2), 1)
        self.assert_bound((1,) * 4, STAR, (1, 2, 3), 1)
        self.assert_bound((1,) * 4, STAR, (1, 2), 0)
        self.assert_bound((1,) * 4, STAR, (0, 1, 2, 3), 2)
        self.assert_bound((1,) * 4, STAR, (0, 1, 3), 3)
        self.assert_bound((1,) * 8, ((0, 1),) * 240, (0, 1), 240)

    def test_one_store_with_a_rate_of_two(self):
        self.assert_bound((2, 1), ((0, 1),), (0,), 0)
        self.assert_bound((1, 8), (), (1,), 0)

    def test_against_all_lots(self):
        chance = random.Random(113)
        for many in (0, 1, 4, 8, 240):
            for _ in range(12):
                stores = chance.randint(2, 6)
                pairs, rates = some_pairs(chance, stores, many), some_rates(chance, stores, (1, 1, 2, 3))
                fewest = fewest_rounds(rates, pairs) if many <= 8 else plan_length(any_plan(rates, pairs))
                for lot in all_lots(stores):
                    added = sum(rates[store] for store in lot)
                    if added < 2:
                        self.assert_raised(InvalidLot, {"value": lot}, inner_bound, rates, pairs, lot)
                        continue
                    inner = sum(pair[0] in lot and pair[1] in lot for pair in pairs)
                    self.assert_bound(rates, pairs, lot, ceiling(inner, added // 2))
                    self.assertLessEqual(inner_bound(rates, pairs, lot), fewest)

    def test_wrong_pairs_come_ahead_of_wrong_lots(self):
        for wrong in wrong_pairs(3):
            for lot in ((), (0,), (0, 1), None, (3,)):
                self.assert_raised(InvalidPairs, {"value": wrong}, inner_bound, (1, 1, 1), wrong, lot)

    def test_values_that_are_no_lots_of_rates_of_two(self):
        wrongs = NO_TUPLES + ((), (0,), (2,), (3,), (-1,), (0, 3), (1, 0), (0, 0), (True,), (0, True), (0, None),
                              ((0, 1),), ("0",), (0, 1, 2, 3), [0, 1], (0, [1]), deep((0, 1), 8))
        for wrong in wrongs:
            for pairs in ((), RING, RING * 80):
                self.assert_raised(InvalidLot, {"value": wrong}, inner_bound, (1, 2, 1), pairs, wrong)
                self.assert_raised(InvalidLot, {"value": wrong}, inner_bound, (1, 2, 1), pairs, lot=wrong)
        self.assert_bound((1, 2, 1), RING, (1,), 0)


if __name__ == "__main__":
    unittest.main()
