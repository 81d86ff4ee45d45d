"""Promise [15] for plans by rates, what [12] says of plans, and [1], [2] and [4] as they bear on them."""

import itertools
import random
import unittest

from helper import (MovedTest, all_moves, busiest_of, has_excess, large_changes, small_changes, some_pairs,
                    some_rates, wrong_pairs)
from movedwhole.errors import InvalidPairs, Undefined
from movedwhole.evenplans import any_plan, drawn_forward, even_plan, three_way_plan
from movedwhole.moves import pairs_of
from movedwhole.plans import first_excess, plan_length
from movedwhole.sources import chosen_moves, least_busiest
from movedwhole.tries import fewest_rounds

EVEN = (2, 2, 2, 4, 6, 8)


class PlansTest(MovedTest):

    def assert_no_excess(self, call, rates, pairs):
        """That the call makes a plan without an excess; its length."""
        plan = call(rates, pairs)
        self.assert_plain(plan)
        self.assertEqual(len(plan), len(pairs))
        self.assertTrue(all(number >= 0 for number in plan))
        self.assertFalse(has_excess(rates, pairs, plan))
        self.assertIsNone(first_excess(rates, pairs, plan))
        self.assertEqual(call(rates=rates, pairs=tuple(list(pairs))), plan)
        return plan_length(plan)


class EvenPlanTest(PlansTest):

    def assert_even(self, rates, pairs, expected):
        """That plans of even rates have as many rounds as expected."""
        self.assertEqual(self.assert_no_excess(even_plan, rates, pairs), expected)
        self.assertEqual(self.assert_no_excess(any_plan, rates, pairs), expected)

    def test_no_pairs(self):
        for many in range(1, 9):
            self.assert_even((2,) * many, (), 0)

    def test_pairs_told_by_hand(self):
        self.assert_even((2, 2), ((0, 1),), 1)
        self.assert_even((2, 2), ((0, 1), (0, 1)), 1)
        self.assert_even((2, 2), ((0, 1), (0, 1), (0, 1)), 2)
        self.assert_even((4, 2), ((0, 1), (0, 1), (0, 1)), 2)
        self.assert_even((4, 4), ((0, 1), (1, 0), (0, 1)), 1)
        self.assert_even((2, 2, 2), ((0, 1), (1, 2), (2, 0)), 1)
        self.assert_even((8,) * 8, ((0, 1), (1, 2), (2, 0)), 1)

    def test_rings(self):
        for many in range(3, 9):
            ring = tuple((store, (store + 1) % many) for store in range(many))
            for times in (1, 2, 5):
                self.assert_even((2,) * many, ring * times, times)
                self.assert_even((4,) * many, ring * times, (times + 1) // 2)

    def test_all_of_few_pairs(self):
        kinds = list(itertools.permutations(range(3), 2))
        for many in range(5):
            for pairs in itertools.product(kinds, repeat=many):
                self.assert_even((2, 4, 2), pairs, busiest_of((2, 4, 2), pairs))

    def test_pairs_by_chance_to_two_hundred_and_forty(self):
        chance = random.Random(101)
        for many in (1, 2, 5, 8, 30, 119, 240):
            for stores in range(2, 9):
                for _ in range(4):
                    pairs, rates = some_pairs(chance, stores, many), some_rates(chance, stores, EVEN)
                    self.assert_even(rates, pairs, busiest_of(rates, pairs))

    def test_one_odd_rate_comes_ahead_of_wrong_pairs(self):
        for rates in ((1, 2, 2), (2, 3, 2), (2, 2, 5), (7, 7, 7)):
            for pairs in [(), ((0, 1),)] + wrong_pairs(3):
                self.assert_raised(Undefined, {"what": "rates"}, even_plan, rates, pairs)
        self.assert_raised(Undefined, {"what": "rates"}, even_plan, rates=(1,), pairs=())

    def test_values_that_are_no_pairs(self):
        for rates in ((2, 2), (2, 8, 4), (2,) * 8):
            for wrong in wrong_pairs(len(rates)):
                self.assert_raised(InvalidPairs, {"value": wrong}, even_plan, rates, wrong)
        self.assert_raised(InvalidPairs, {"value": ((0, 1),)}, even_plan, rates=(2,), pairs=((0, 1),))


class AnyPlanTest(PlansTest):

    def assert_bound(self, rates, pairs):
        """That the plan has at most as many rounds as told, and no fewer than the busiest store needs."""
        least = busiest_of(rates, pairs)
        length = self.assert_no_excess(any_plan, rates, pairs)
        one_way = not {giver for giver, taker in pairs} & {taker for giver, taker in pairs}
        if one_way or not any(rate % 2 for rate in rates):
            self.assertEqual(length, least)
        self.assertLessEqual(least, length)
        self.assertLessEqual(length, 3 * ((least + 1) // 2))
        return length

    def test_no_pairs(self):
        for many in range(1, 9):
            self.assertEqual(self.assert_bound((1,) * many, ()), 0)

    def test_pairs_told_by_hand(self):
        self.assertEqual(self.assert_bound((1, 1), ((0, 1),)), 1)
        self.assertEqual(self.assert_bound((1, 1), ((0, 1), (1, 0))), 2)
        self.assertEqual(self.assert_bound((1, 3), ((0, 1), (0, 1))), 2)
        self.assertEqual(self.assert_bound((3, 3), ((0, 1), (0, 1), (0, 1))), 1)

    def test_rings_of_rate_one(self):
        for many in range(3, 9):
            ring = tuple((store, (store + 1) % many) for store in range(many))
            for pairs in (ring, ring[::-1], ring[1::2] + ring[::2]):
                length = self.assert_bound((1,) * many, pairs)
                if many % 2:
                    self.assertEqual(length, 3)
            for times in (2, 3, 4):
                self.assert_bound((1,) * many, ring * times)
                self.assert_bound((3,) * many, ring * times)

    def test_rings_of_three_that_need_all_rounds_of_the_bound(self):
        ring = ((0, 1), (1, 2), (2, 0))
        for times in range(1, 41):
            self.assertEqual(self.assert_bound((1, 1, 1), ring * times), 3 * times)

    def test_givers_that_never_take(self):
        chance = random.Random(102)
        for many in (1, 5, 30, 240):
            for givers in range(1, 8):
                for _ in range(4):
                    rates = some_rates(chance, 8)
                    pairs = tuple((chance.randrange(givers), chance.randrange(givers, 8)) for _ in range(many))
                    self.assertEqual(self.assert_bound(rates, pairs), busiest_of(rates, pairs))

    def test_all_of_few_pairs(self):
        kinds = list(itertools.permutations(range(3), 2))
        for many in range(5):
            for pairs in itertools.product(kinds, repeat=many):
                self.assert_bound((1, 2, 1), pairs)
                self.assert_bound((1, 1, 3), pairs)

    def test_pairs_by_chance_to_two_hundred_and_forty(self):
        chance = random.Random(103)
        for many in (1, 2, 5, 8, 30, 119, 240):
            for stores in range(2, 9):
                for rates in ((1,), (1, 2), (1, 3, 5, 7), (1, 2, 8)):
                    self.assert_bound(some_rates(chance, stores, rates), some_pairs(chance, stores, many))

    def test_what_any_plan_is_drawn_from_keeps_the_bound_already(self):
        chance = random.Random(108)
        for many in (1, 2, 5, 8, 30, 119, 240):
            for stores in range(2, 9):
                for rates in ((1,), (1, 2), (1, 3, 5, 7)):
                    rates, pairs = some_rates(chance, stores, rates), some_pairs(chance, stores, many)
                    plan = three_way_plan(rates, pairs)
                    self.assertFalse(has_excess(rates, pairs, plan))
                    self.assertLessEqual(plan_length(plan), 3 * ((busiest_of(rates, pairs) + 1) // 2))
                    drawn = drawn_forward(rates, pairs, plan)
                    self.assertFalse(has_excess(rates, pairs, drawn))
                    self.assertTrue(all(later <= number for later, number in zip(drawn, plan)))

    def test_two_hundred_and_forty_pairs_of_rate_one(self):
        every = tuple(itertools.permutations(range(8), 2))
        self.assert_bound((1,) * 8, (every * 5)[:240])
        self.assertEqual(self.assert_bound((1,) * 8, ((3, 5), (5, 3)) * 120), 240)

    def test_values_that_are_no_pairs(self):
        for rates in ((1, 1), (2, 2), (2, 8, 3), (1,) * 8):
            for wrong in wrong_pairs(len(rates)):
                self.assert_raised(InvalidPairs, {"value": wrong}, any_plan, rates, wrong)
        for rates in ((1,), (2,)):
            self.assert_raised(InvalidPairs, {"value": ((0, 1),)}, any_plan, rates=rates, pairs=((0, 1),))


class AllTogetherTest(PlansTest):

    def test_chosen_moves_are_done_in_least_busiest_rounds_by_even_rates(self):
        for cluster, before, after in list(small_changes(104, 200, EVEN)) + list(large_changes(105, 8, EVEN)):
            pairs = pairs_of(chosen_moves(cluster, before, after))
            least = least_busiest(cluster, before, after)
            self.assertEqual(self.assert_no_excess(even_plan, cluster.rates, pairs), least)
            self.assertEqual(self.assert_no_excess(any_plan, cluster.rates, pairs), least)

    def test_no_moves_are_done_in_fewer_rounds_by_even_rates(self):
        tried = 0
        for cluster, before, after in small_changes(106, 200, EVEN):
            every = list(all_moves(before, after))
            if len(every) > 60 or len(every[0]) > 8:
                continue
            tried += 1
            fewest = min(fewest_rounds(cluster.rates, pairs_of(moves)) for moves in every)
            self.assertEqual(least_busiest(cluster, before, after), fewest)
        self.assertGreater(tried, 100)

    def test_chosen_moves_of_any_rates(self):
        for cluster, before, after in large_changes(107, 10):
            pairs = pairs_of(chosen_moves(cluster, before, after))
            least = least_busiest(cluster, before, after)
            self.assertLessEqual(self.assert_no_excess(any_plan, cluster.rates, pairs), 3 * ((least + 1) // 2))


if __name__ == "__main__":
    unittest.main()
