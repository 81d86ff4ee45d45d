"""Promise [8], and [1], [2] and [4] as they bear on it."""

import itertools
import unittest

from helper import EIGHT, MovedTest, NO_TUPLES, THREE, all_good_placings, all_lots, large_worlds, small_worlds
from movedwhole.clusters import Cluster
from movedwhole.errors import InvalidLot, InvalidWishes, Undefined
from movedwhole.placings import first_breach
from movedwhole.rooming import lacks_room, lot_lacking, some_placing

NO_WISHES = NO_TUPLES + ((0,), (4,), (1, True), (1, None), ((1,),))


def lacks_by_its_words(cluster, wishes, lot):
    racks_outside = []
    for store in range(cluster.store_count):
        if store not in lot and cluster.racks[store] not in racks_outside:
            racks_outside.append(cluster.racks[store])
    above = 0
    for wish in wishes:
        if wish > len(racks_outside):
            above += wish - len(racks_outside)
    return above > sum(cluster.rooms[store] for store in lot)


class LacksRoomTest(MovedTest):

    def test_the_empty_lot_lacks_room_if_racks_are_too_few(self):
        cluster = Cluster((4, 4, 6), (9, 9, 9), (1, 1, 1))
        self.assertIs(lacks_room(cluster, (1, 2, 2), ()), False)
        self.assertIs(lacks_room(cluster, (1, 3, 2), ()), True)
        self.assertIs(lacks_room(cluster, (), ()), False)

    def test_lots_of_a_cluster_told_by_hand(self):
        # Stores 0 and 1 share a rack: it is outside unless both are in the lot.
        cluster = Cluster((4, 4, 6), (1, 0, 1), (1, 1, 1))
        for lot, lacks in (((), False), ((0,), False), ((1,), False), ((2,), True), ((0, 1), True),
                           ((0, 2), False), ((1, 2), True), ((0, 1, 2), True)):
            self.assertIs(lacks_room(cluster, (2, 2), lot), lacks, lot)
        for lot in all_lots(3):
            self.assertIs(lacks_room(cluster, (2,), lot), False)
            self.assertIs(lacks_room(cluster=cluster, wishes=(1, 1), lot=lot), False)

    def test_exactly_the_room_that_is_needed(self):
        for room in range(6):
            cluster = Cluster((0, 1), (room, 1), (1, 1))
            self.assertIs(lacks_room(cluster, (2, 2, 2), (0,)), room < 3)
            self.assertIs(lacks_room(cluster, (2, 2, 2), (0, 1)), room < 5)

    def test_every_lot_of_small_clusters(self):
        for cluster, wishes, _ in small_worlds(11, 200):
            for lot in all_lots(cluster.store_count):
                self.assertIs(lacks_room(cluster, wishes, lot), lacks_by_its_words(cluster, wishes, lot))

    def test_errors_in_their_order(self):
        for wrong in NO_WISHES:
            for lot in ((0,), [0], (3,)):
                self.assert_raised(InvalidWishes, {"value": wrong}, lacks_room, THREE, wrong, lot)
        for wrong in (True, None, 0, "0", [], [0], (3,), (-1,), (1, 0), (0, 0), (True,), (None,), ((0,),), THREE):
            self.assert_raised(InvalidLot, {"value": wrong}, lacks_room, THREE, (1,), wrong)


class PlacingTest(MovedTest):

    def assert_one_of_both(self, cluster, wishes):
        """That just one of a lot lacking room and a placing that keeps the rules is there, by a search of all."""
        lot = lot_lacking(cluster, wishes)
        self.assert_plain(lot)
        lacking = [other for other in all_lots(cluster.store_count) if lacks_room(cluster, wishes, other)]
        found = next(all_good_placings(cluster, wishes), None)
        self.assertEqual(found is None, bool(lacking))
        self.assertEqual(lot is None, not lacking)
        if lacking:
            self.assertIn(lot, lacking)
            self.assert_raised(Undefined, {"what": "room"}, some_placing, cluster, wishes)
        else:
            placing = some_placing(cluster, wishes)
            self.assert_plain(placing)
            self.assertIsNone(first_breach(cluster, wishes, placing))
            self.assertEqual(placing, some_placing(cluster=cluster, wishes=wishes))
        self.assertEqual(lot, lot_lacking(cluster=cluster, wishes=wishes))
        return not lacking

    def test_all_clusters_of_three_stores_with_little_room(self):
        some = 0
        for racks in ((0, 1, 2), (0, 0, 1), (3, 3, 3)):
            for rooms in itertools.product(range(3), repeat=3):
                cluster = Cluster(racks, rooms, (1, 1, 1))
                for wishes in ((1,), (2,), (3,), (1, 1), (1, 2), (2, 2), (3, 1), (1, 2, 1), (2, 2, 2)):
                    some += self.assert_one_of_both(cluster, wishes)
        self.assertGreater(some, 150)

    def test_clusters_by_chance(self):
        some = sum([self.assert_one_of_both(cluster, wishes) for cluster, wishes, _ in small_worlds(12, 400)])
        self.assertTrue(100 < some < 390)

    def test_no_pieces(self):
        cluster = Cluster((0,), (0,), (1,))
        self.assertIsNone(lot_lacking(cluster, ()))
        self.assertEqual(some_placing(cluster, ()), ())

    def test_forty_pieces_at_eight_stores(self):
        self.assertIsNone(first_breach(EIGHT, (3,) * 40, some_placing(EIGHT, (3,) * 40)))
        full = EIGHT.with_room(0, 14)
        self.assertTrue(lacks_room(full, (3,) * 40, lot_lacking(full, (3,) * 40)))
        self.assert_raised(Undefined, {"what": "room"}, some_placing, full, (3,) * 40)
        for cluster, wishes, _ in large_worlds(13, 20):
            lot = lot_lacking(cluster, wishes)
            if lot is None:
                self.assertIsNone(first_breach(cluster, wishes, some_placing(cluster, wishes)))
            else:
                self.assertTrue(lacks_room(cluster, wishes, lot))
                self.assert_raised(Undefined, {"what": "room"}, some_placing, cluster, wishes)

    def test_wrong_wishes(self):
        full = Cluster((0,), (0,), (1,))
        for wrong in NO_WISHES:
            for cluster in (THREE, full):
                self.assert_raised(InvalidWishes, {"value": wrong}, lot_lacking, cluster, wrong)
                self.assert_raised(InvalidWishes, {"value": wrong}, some_placing, cluster, wrong)


if __name__ == "__main__":
    unittest.main()
