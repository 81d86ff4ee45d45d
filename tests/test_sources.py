"""Promise [12] up to its plans, and [1], [2] and [4] as they bear on it."""

import unittest

from helper import (MovedTest, NO_TUPLES, THREE, all_lots, all_moves, busiest_of, ceiling, deep, large_changes,
                    small_changes)
from movedwhole.clusters import Cluster
from movedwhole.errors import InvalidLot, Undefined
from movedwhole.moves import busiest, first_wrong_move, pairs_of
from movedwhole.placings import new_copies
from movedwhole.sources import busy_lot, chosen_moves, least_busiest, lot_value_of


def value_by_its_words(cluster, before, after, lot):
    """lot_value_of, word for word."""
    added = 0
    for piece, store in new_copies(before, after):
        added += store in lot
        added += set(before[piece]) <= set(lot)
    return ceiling(added, sum(cluster.rates[store] for store in lot))


class SourcesTest(MovedTest):

    def assert_least(self, cluster, before, after, expected):
        """That the least busiest is as expected, and that the moves and the lot are some with just this."""
        self.assertTrue(self.same(least_busiest(cluster, before, after), expected))
        self.assertEqual(least_busiest(cluster=cluster, before=before, after=after), expected)
        moves = chosen_moves(cluster, before, after)
        self.assert_plain(moves)
        self.assertIsNone(first_wrong_move(before, after, moves))
        self.assertEqual(busiest(cluster.rates, pairs_of(moves)), expected)
        self.assertEqual(chosen_moves(cluster=cluster, before=before, after=after), moves)
        if not moves:
            self.assert_raised(Undefined, {"what": "lot"}, busy_lot, cluster, before, after)
            return
        lot = busy_lot(cluster, before, after)
        self.assert_plain(lot)
        self.assertIn(lot, all_lots(cluster.store_count)[1:])
        self.assertEqual(lot_value_of(cluster, before, after, lot), expected)
        self.assertEqual(busy_lot(cluster=cluster, before=before, after=after), lot)

    def test_changes_told_by_hand(self):
        self.assert_least(THREE, ((0,), (0,)), ((1,), (2,)), 1)
        self.assert_least(THREE, ((0,), (0,), (0,)), ((1,), (2,), (1,)), 2)
        self.assert_least(THREE, ((0, 1), (0,), (0,)), ((2,), (2,), (1,)), 1)
        self.assert_least(Cluster((0, 1, 2), (9, 9, 9), (1, 8, 8)), ((0,), (0,), (0,)), ((1,), (2,), (1,)), 3)

    def test_no_change(self):
        self.assert_least(THREE, (), (), 0)
        self.assert_least(THREE, ((0, 1), (2,)), ((0, 1), (2,)), 0)
        self.assert_least(THREE, ((0, 1, 2), (2,)), ((1,), (2,)), 0)
        self.assert_least(Cluster((0,), (9,), (1,)), ((0,),), ((0,),), 0)
        self.assertEqual(chosen_moves(THREE, ((0, 1),), ((0,),)), ())

    def test_givers_change_where_another_copy_needs_theirs(self):
        cluster = Cluster((0,) * 5, (9,) * 5, (1, 1, 1, 3, 3))
        self.assert_least(cluster, ((0, 1), (1, 2), (0,)), ((3,), (3,), (3,)), 1)
        self.assert_least(cluster, ((0,), (0, 1), (1, 2)), ((3,), (3,), (3,)), 1)
        self.assert_least(cluster, ((0,), (0, 1), (1, 2), (2,)), ((3,), (3,), (3,), (4,)), 2)

    def test_takers_alone_can_be_the_busiest(self):
        self.assert_least(Cluster((0,) * 4, (9,) * 4, (1, 4, 4, 4)), ((1, 2, 3),) * 3, ((0,),) * 3, 3)

    def test_a_taker_gives_less(self):
        cluster = Cluster((0,) * 4, (9,) * 4, (2, 2, 2, 2))
        self.assert_least(cluster, ((0, 1), (0, 1), (2,), (3,)), ((2,), (3,), (0,), (0,)), 1)

    def test_against_all_lots_and_all_lists_of_moves(self):
        tried = 0
        for cluster, before, after in small_changes(61, 500):
            values = [value_by_its_words(cluster, before, after, lot) for lot in all_lots(cluster.store_count)[1:]]
            self.assert_least(cluster, before, after, max(values))
            moves = list(all_moves(before, after))
            if len(moves) < 500:
                tried += 1
                least = min(busiest_of(cluster.rates, [move[1:] for move in each]) for each in moves)
                self.assertEqual(least, max(values))
        self.assertGreater(tried, 300)

    def test_eight_stores_forty_pieces_and_a_hundred_and_twenty_new_copies(self):
        for cluster, before, after in large_changes(62, 60):
            self.assertEqual(len(new_copies(before, after)), 120)
            values = [lot_value_of(cluster, before, after, lot) for lot in all_lots(8)[1:]]
            self.assert_least(cluster, before, after, max(values))

    def test_pieces_with_elder_copies_at_all_other_stores(self):
        cluster = Cluster((0,) * 8, (40,) * 8, (1, 2, 3, 4, 5, 6, 7, 8))
        before = tuple(tuple(store for store in range(8) if store != piece % 8) for piece in range(40))
        after = tuple((piece % 8,) for piece in range(40))
        values = [value_by_its_words(cluster, before, after, lot) for lot in all_lots(8)[1:]]
        self.assert_least(cluster, before, after, max(values))


class LotValueTest(MovedTest):

    def test_values_told_by_hand(self):
        cluster = Cluster((0,) * 4, (9,) * 4, (1, 2, 3, 5))
        before = ((0, 1), (0,), (2,))
        after = ((2, 3), (1,), (2,))
        # New copies: the first piece at 2 and 3, the second at 1. Of 0 alone comes the second, of 0 and 1 all three.
        for lot, expected in (((0,), 1), ((1,), 1), ((2,), 1), ((3,), 1), ((0, 1), 2), ((0, 1, 2), 1), ((2, 3), 1),
                              ((0, 1, 2, 3), 1), ((0, 2), 1)):
            self.assertTrue(self.same(lot_value_of(cluster, before, after, lot), expected), lot)
        self.assertEqual(lot_value_of(cluster=cluster, before=((0,),) * 3, after=((1,),) * 3, lot=(0,)), 3)
        self.assertEqual(lot_value_of(cluster, ((0,),) * 3, ((1,),) * 3, (0, 1)), 2)
        self.assertEqual(lot_value_of(cluster, ((0,),) * 3, ((1,),) * 3, (0, 1, 2)), 1)

    def test_a_copy_that_comes_from_the_lot_to_the_lot_counts_twice(self):
        self.assertEqual(lot_value_of(Cluster((0, 0), (9, 9), (1, 1)), ((0,),), ((1,),), (0, 1)), 1)
        self.assertEqual(lot_value_of(Cluster((0, 0), (9, 9), (1, 1)), ((0,),) * 2, ((1,),) * 2, (0, 1)), 2)

    def test_no_new_copy(self):
        for lot in all_lots(3)[1:]:
            self.assertEqual(lot_value_of(THREE, ((0, 1),), ((1,),), lot), 0)
            self.assertEqual(lot_value_of(THREE, (), (), lot), 0)

    def test_all_lots_of_changes_by_chance(self):
        for cluster, before, after in list(small_changes(63, 200)) + list(large_changes(64, 5)):
            for lot in all_lots(cluster.store_count)[1:]:
                found = lot_value_of(cluster, before, after, lot)
                self.assert_plain(found)
                self.assertEqual(found, value_by_its_words(cluster, before, after, lot))

    def test_what_is_no_non_empty_lot(self):
        wrongs = NO_TUPLES + ((), (3,), (-1,), (0, 3), (1, 0), (0, 0), (True,), (0, True), (0, None), ((0,),), ("0",),
                              (0, 1, 2, 3), [0], [0, 1], (0, [1]), deep((0,), 8))
        for wrong in wrongs:
            for before, after in (((), ()), (((0,),), ((1,),))):
                self.assert_raised(InvalidLot, {"value": wrong}, lot_value_of, THREE, before, after, wrong)
                self.assert_raised(InvalidLot, {"value": wrong}, lot_value_of, THREE, before, after, lot=wrong)


if __name__ == "__main__":
    unittest.main()
