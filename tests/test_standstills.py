"""Promise [24], and [1], [2] and [4] as they bear on it."""

import itertools
import random
import time
import unittest

from helper import (MovedTest, NO_INTEGERS, NO_TUPLES, THREE, all_lots, busiest_of, ceiling, deep, large_changes,
                    small_changes)
from movedwhole.clusters import Cluster
from movedwhole.errors import InvalidLot
from movedwhole.sources import least_busiest, lot_value_of
from movedwhole.standstills import least_without, moves_without, value_without, waiting


def parted(before, after, still):
    """The new copies that wait, and for each other one its givers, by the words."""
    wait, going = [], []
    for piece, lot in enumerate(after):
        for store in lot:
            givers = [elder for elder in before[piece] if elder not in still]
            if store in before[piece]:
                continue
            if store in still or not givers:
                wait.append((piece, store))
            else:
                going.append((piece, store, givers))
    return tuple(wait), going


def least_of(cluster, going):
    """The least busiest over all choices of givers."""
    choices = itertools.product(*[givers for _, _, givers in going])
    takers = [store for _, store, _ in going]
    return min(busiest_of(cluster.rates, list(zip(givers, takers))) for givers in choices)


def value_of(cluster, going, lot):
    """The value of a lot, by its words."""
    total = sum(store in lot for _, store, _ in going) + sum(set(givers) <= set(lot) for _, _, givers in going)
    return ceiling(total, sum(cluster.rates[store] for store in lot))


class StandstillTest(MovedTest):

    def assert_still(self, cluster, before, after, still, least):
        """That just the copies wait that must, and that the moves of the others are as easy as can be."""
        wait, going = parted(before, after, still)
        found = waiting(cluster, before, after, still)
        self.assertEqual(found, wait)
        moves = moves_without(cluster, before, after, still)
        self.assert_plain((found, moves))
        self.assertEqual([(piece, taker) for piece, _, taker in moves], [(piece, store) for piece, store, _ in going])
        for (_, giver, _), (_, _, givers) in zip(moves, going):
            self.assertIn(giver, givers)
        self.assertEqual(busiest_of(cluster.rates, [move[1:] for move in moves]), least)
        self.assertTrue(self.same(least_without(cluster, before, after, still), least))
        named = {"cluster": cluster, "before": before, "after": after, "still": still}
        self.assertEqual((waiting(**named), moves_without(**named), least_without(**named)), (wait, moves, least))

    def test_told_by_hand(self):
        before, after = ((0,), (0, 1), (2,)), ((1,), (2,), (0,))
        self.assert_still(THREE, before, after, (), 1)
        self.assertEqual(waiting(THREE, before, after, ()), ())
        self.assertEqual(waiting(THREE, before, after, (0,)), ((0, 1), (2, 0)))
        self.assertEqual(moves_without(THREE, before, after, (0,)), ((1, 1, 2),))
        self.assertEqual(waiting(THREE, before, after, (1,)), ((0, 1),))
        self.assertEqual(moves_without(THREE, before, after, (1,)), ((1, 0, 2), (2, 2, 0)))
        self.assertEqual(waiting(THREE, before, after, (0, 1)), ((0, 1), (1, 2), (2, 0)))
        self.assertEqual(moves_without(THREE, before, after, (0, 1)), ())
        self.assertEqual(least_without(THREE, before, after, (0, 1)), 0)

    def test_stores_that_stand_still_leave_more_to_the_others(self):
        cluster = Cluster((0, 1, 2, 3), (9,) * 4, (1,) * 4)
        before, after = ((0, 1),) * 4, ((2,), (2,), (3,), (3,))
        self.assert_still(cluster, before, after, (), 2)
        self.assert_still(cluster, before, after, (1,), 4)
        self.assert_still(cluster, before, after, (1, 3), 2)
        self.assert_still(cluster, before, after, (0, 1), 0)

    def test_against_all_choices_of_givers_and_all_lots(self):
        for cluster, before, after in small_changes(241, 150):
            for still in all_lots(cluster.store_count):
                going = parted(before, after, still)[1]
                least = least_of(cluster, going)
                self.assert_still(cluster, before, after, still, least)
                awake = [lot for lot in all_lots(cluster.store_count)[1:] if not set(lot) & set(still)]
                values = [self.value(cluster, before, after, still, lot) for lot in awake]
                self.assertEqual(max(values, default=0), least)
                self.assertEqual(bool(awake), len(still) < cluster.store_count)
                self.assertEqual(values, [value_of(cluster, going, lot) for lot in awake])

    def value(self, cluster, before, after, still, lot):
        """What value_without answers, by position and by name."""
        found = value_without(cluster, before, after, still, lot)
        self.assert_plain(found)
        self.assertEqual(value_without(cluster=cluster, before=before, after=after, still=still, lot=lot), found)
        return found

    def test_without_still_stores_it_is_the_change_itself(self):
        for cluster, before, after in small_changes(242, 60):
            self.assertEqual(least_without(cluster, before, after, ()), least_busiest(cluster, before, after))
            for lot in all_lots(cluster.store_count)[1:]:
                self.assertEqual(value_without(cluster, before, after, (), lot),
                                 lot_value_of(cluster, before, after, lot))

    def test_forty_pieces_at_eight_stores_in_a_short_time(self):
        chance = random.Random(243)
        start = time.process_time()
        for cluster, before, after in large_changes(244, 4):
            for size in range(9):
                still = tuple(sorted(chance.sample(range(8), size)))
                going = parted(before, after, still)[1]
                lots = [lot for lot in all_lots(8)[1:] if not set(lot) & set(still)]
                least = max([value_of(cluster, going, lot) for lot in lots], default=0)
                self.assert_still(cluster, before, after, still, least)
        self.assertLess(time.process_time() - start, 20)


class ErrorsTest(MovedTest):

    def test_still_comes_ahead_of_the_lot(self):
        before, after = ((0,), (1,)), ((1,), (2,))
        wrongs = NO_TUPLES + ((3,), (-1,), (1, 0), (0, 0), (True,), (0, True), (None,), ("0",), ((0,),), [0], [],
                              (THREE,), deep(0, 9), (0, 1, 2, 3))
        for wrong in wrongs:
            for call in (waiting, moves_without, least_without):
                self.assert_raised(InvalidLot, {"value": wrong}, call, THREE, before, after, wrong)
                self.assert_raised(InvalidLot, {"value": wrong}, call, cluster=THREE, before=before, after=after,
                                   still=wrong)
            for lot in ((0,), (), None, (9,)):
                self.assert_raised(InvalidLot, {"value": wrong}, value_without, THREE, before, after, wrong, lot)
        for wrong in wrongs + ((),) + tuple((number,) for number in NO_INTEGERS):
            for still in ((), (1,), (0, 1, 2)):
                self.assert_raised(InvalidLot, {"value": wrong}, value_without, THREE, before, after, still, wrong)

    def test_a_lot_with_a_still_store(self):
        before, after = ((0,), (1,)), ((1,), (2,))
        for still, lot in (((0,), (0,)), ((0,), (0, 1)), ((1, 2), (0, 1)), ((0, 1, 2), (0,)), ((2,), (0, 1, 2))):
            self.assert_raised(InvalidLot, {"value": lot}, value_without, THREE, before, after, still, lot)
            self.assert_raised(InvalidLot, {"value": lot}, value_without, cluster=THREE, before=before, after=after,
                               still=still, lot=lot)


if __name__ == "__main__":
    unittest.main()
