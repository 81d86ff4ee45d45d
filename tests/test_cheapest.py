"""Promise [9], and [1], [2] and [4] as they bear on it."""

import unittest

from helper import EIGHT, MovedTest, NO_TUPLES, THREE, all_good_placings, count_new, large_worlds, small_worlds
from movedwhole.cheapest import fewest_new, fewest_placing
from movedwhole.clusters import Cluster
from movedwhole.errors import InvalidPlacing, InvalidWishes, Undefined
from movedwhole.placings import first_breach
from movedwhole.prices import price_paper, shown_by
from movedwhole.rooming import lot_lacking


class FewestTest(MovedTest):

    def assert_fewest(self, cluster, wishes, before, expected):
        """That as many new copies are told as expected, and that the placing has just so many and keeps the rules."""
        after = fewest_placing(cluster, wishes, before)
        self.assert_plain(after)
        self.assertIsNone(first_breach(cluster, wishes, after))
        self.assertEqual(count_new(before, after), expected)
        self.assert_plain(fewest_new(cluster, wishes, before))
        self.assertEqual(fewest_new(cluster=cluster, wishes=wishes, before=before), expected)
        self.assertEqual(fewest_placing(cluster=cluster, wishes=wishes, before=before), after)

    def test_placings_told_by_hand(self):
        self.assert_fewest(THREE, (), (), 0)
        self.assert_fewest(THREE, (2, 1), ((0, 1), (2,)), 0)
        self.assert_fewest(THREE, (3,), ((1,),), 2)
        self.assert_fewest(THREE, (1,), ((0, 1, 2),), 0)

    def test_a_store_without_room_is_emptied(self):
        cluster = Cluster((0, 1, 2), (0, 2, 2), (1, 1, 1))
        self.assert_fewest(cluster, (1, 1), ((0,), (0,)), 2)
        self.assert_fewest(cluster, (2, 1), ((0, 1), (2,)), 1)

    def test_two_copies_on_one_rack_are_parted(self):
        self.assert_fewest(Cluster((0, 0, 1), (9, 9, 9), (1, 1, 1)), (2,), ((0, 1),), 1)

    def test_an_elder_copy_gives_way_to_a_piece_that_has_no_other_elder_one(self):
        cluster = Cluster((0, 1), (1, 1), (1, 1))
        self.assert_fewest(cluster, (1, 1), ((0, 1), (0,)), 0)
        self.assert_fewest(cluster, (1, 1), ((0,), (0, 1)), 0)

    def test_a_chain_of_elder_copies_that_give_way(self):
        cluster = Cluster((0, 1, 2, 3, 4), (1,) * 5, (1,) * 5)
        before = ((0, 1), (1, 2), (2, 3), (3, 4), (0,))
        self.assert_fewest(cluster, (1,) * 5, before, 0)
        self.assert_fewest(cluster, (1,) * 5, before[:4] + ((1,),), 0)
        self.assert_fewest(cluster, (1,) * 5, ((0,), (0,), (0,), (3, 4), (3, 4)), 2)

    def test_against_a_search_of_all_placings(self):
        found = 0
        for cluster, wishes, before in small_worlds(21, 600):
            news = [count_new(before, after) for after in all_good_placings(cluster, wishes)]
            if news:
                found += 1
                self.assert_fewest(cluster, wishes, before, min(news))
            else:
                for call in (fewest_placing, fewest_new):
                    self.assert_raised(Undefined, {"what": "room"}, call, cluster, wishes, before)
        self.assertTrue(200 < found < 590)

    def test_forty_pieces_at_eight_stores(self):
        self.assert_fewest(EIGHT, (3,) * 40, tuple((piece % 8,) for piece in range(40)), 80)
        found = 0
        for cluster, wishes, before in large_worlds(22, 20):
            if lot_lacking(cluster, wishes) is None:
                found += 1
                shown = shown_by(cluster, wishes, before, price_paper(cluster, wishes, before))
                self.assert_fewest(cluster, wishes, before, shown)
            else:
                self.assert_raised(Undefined, {"what": "room"}, fewest_new, cluster, wishes, before)
        self.assertGreater(found, 5)


class ErrorsTest(MovedTest):

    def test_wrong_wishes_come_first(self):
        for wrong in NO_TUPLES + ((0,), (4,), (True,), (1, None)):
            for before in (((0,),), None, ((9,),)):
                for call in (fewest_placing, fewest_new):
                    self.assert_raised(InvalidWishes, {"value": wrong}, call, THREE, wrong, before)

    def test_wrong_placings_come_before_want_of_room(self):
        for cluster in (THREE, Cluster((0, 1, 2), (0, 0, 0), (1, 1, 1))):
            for wrong in NO_TUPLES + ((), ((0,), (1,)), ((),), ((3,),), ((1, 0),), ((True,),), ([0],), (0,)):
                for call in (fewest_placing, fewest_new):
                    self.assert_raised(InvalidPlacing, {"value": wrong}, call, cluster, (1,), wrong)

    def test_want_of_room_and_of_racks(self):
        for cluster, wishes in ((Cluster((0, 1), (0, 0), (1, 1)), (1,)), (Cluster((0, 0), (9, 9), (1, 1)), (2,)),
                                (Cluster((0, 1), (1, 1), (1, 1)), (3,)), (Cluster((0, 1), (2, 1), (1, 1)), (2, 2))):
            for call in (fewest_placing, fewest_new):
                self.assert_raised(Undefined, {"what": "room"}, call, cluster, wishes, ((0,),) * len(wishes))


if __name__ == "__main__":
    unittest.main()
