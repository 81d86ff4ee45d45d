"""Promise [5], and [1], [2] and [4] as they bear on it."""

import unittest

from helper import MovedTest, NO_INTEGERS, THREE
from movedwhole.clusters import Cluster
from movedwhole.errors import InvalidCluster, InvalidNumber, TooMany

PARTS = ("racks", "rooms", "rates")
BOUNDS = {"racks": (0, 99), "rooms": (0, 99), "rates": (1, 8)}
NO_SEQUENCES = (True, None, 0, 3, "012", "", THREE)


class ClusterTest(MovedTest):

    def test_one_to_eight_stores_of_lists_and_tuples(self):
        for count in range(1, 9):
            for made in (list, tuple):
                cluster = Cluster(made(range(count)), made([99] * count), made(range(1, count + 1)))
                self.assertEqual(cluster.racks, tuple(range(count)))
                self.assertEqual(cluster.rooms, (99,) * count)
                self.assertEqual(cluster.rates, tuple(range(1, count + 1)))
                self.assertEqual(cluster.store_count, count)
                for attribute in (cluster.racks, cluster.rooms, cluster.rates, cluster.store_count):
                    self.assert_plain(attribute)

    def test_least_and_greatest_members(self):
        cluster = Cluster(racks=[0, 99], rooms=(0, 99), rates=[1, 8])
        self.assertEqual((cluster.racks, cluster.rooms, cluster.rates), ((0, 99), (0, 99), (1, 8)))

    def test_what_was_passed_may_be_changed_afterwards(self):
        parts = [[0, 1], [2, 3], [4, 5]]
        cluster = Cluster(*parts)
        self.assertEqual(parts, [[0, 1], [2, 3], [4, 5]])
        for part in parts:
            part.append(1)
            part[0] = 77
        self.assertEqual((cluster.racks, cluster.rooms, cluster.rates), ((0, 1), (2, 3), (4, 5)))
        self.assertEqual(cluster.store_count, 2)

    def test_parts_that_are_no_sequence_of_the_right_length(self):
        for at, part in enumerate(PARTS):
            for wrong in NO_SEQUENCES + ((), [], (1,), [1], (1, 1, 1), [1] * 9, (1,) * 9):
                if part == "racks" and isinstance(wrong, (list, tuple)) and 1 <= len(wrong) <= 8:
                    continue
                parts = [(1, 1), (1, 1), (1, 1)]
                parts[at] = wrong
                self.assert_raised(InvalidCluster, {"part": part, "place": 0}, Cluster, *parts)

    def test_the_length_of_racks_binds_the_others(self):
        for racks in ((1,), (1, 1, 1), [1] * 8):
            self.assert_raised(InvalidCluster, {"part": "rooms", "place": 0}, Cluster, racks, (1, 1), (1, 1))
            rooms = (1,) * len(racks)
            self.assert_raised(InvalidCluster, {"part": "rates", "place": 0}, Cluster, racks, rooms, (1, 1))

    def test_members_that_are_out_of_bounds_or_no_integers(self):
        for at, part in enumerate(PARTS):
            least, most = BOUNDS[part]
            for wrong in NO_INTEGERS + (least - 1, most + 1, -1, 1000, 10 ** 30):
                for place in range(4):
                    parts = [[1] * 4, [1] * 4, [1] * 4]
                    parts[at][place:] = [wrong] * (4 - place)
                    self.assert_raised(InvalidCluster, {"part": part, "place": place}, Cluster, *parts)

    def test_the_first_part_that_is_wrong_is_told(self):
        wrongs = ([1, -1], [1, 100], [1, 9])
        self.assert_raised(InvalidCluster, {"part": "racks", "place": 1}, Cluster, *wrongs)
        self.assert_raised(InvalidCluster, {"part": "racks", "place": 1}, Cluster, wrongs[0], None, None)
        self.assert_raised(InvalidCluster, {"part": "rooms", "place": 1}, Cluster, [1, 1], *wrongs[1:])
        self.assert_raised(InvalidCluster, {"part": "rooms", "place": 0}, Cluster, [1, 1], "ab", "ab")
        self.assert_raised(InvalidCluster, {"part": "rates", "place": 1}, Cluster, [1, 1], [1, 1], wrongs[2])


class EqualityTest(MovedTest):

    def test_equal_if_all_three_are(self):
        cluster = Cluster((0, 1), (2, 3), (4, 5))
        self.assertTrue(cluster == Cluster([0, 1], [2, 3], [4, 5]))
        self.assertFalse(cluster != Cluster([0, 1], [2, 3], [4, 5]))
        for other in (Cluster((1, 1), (2, 3), (4, 5)), Cluster((0, 1), (2, 2), (4, 5)),
                      Cluster((0, 1), (2, 3), (4, 4)), Cluster((0,), (2,), (4,)),
                      Cluster((0, 1, 1), (2, 3, 3), (4, 5, 5))):
            self.assertFalse(cluster == other)
            self.assertTrue(cluster != other)

    def test_equal_to_nothing_else(self):
        cluster = Cluster((0,), (1,), (2,))
        for other in NO_INTEGERS + (((0,), (1,), (2,)), 0, object(), InvalidCluster("racks", 0)):
            self.assertIs(cluster == other, False)
            self.assertIs(other == cluster, False)
            self.assertIs(cluster != other, True)


class ChangedTest(MovedTest):

    def setUp(self):
        self.cluster = Cluster((0, 1), (2, 3), (4, 5))

    def tearDown(self):
        self.assertEqual(self.cluster, Cluster((0, 1), (2, 3), (4, 5)))

    def test_a_store_more(self):
        self.assertEqual(self.cluster.with_store(9, 0, 8), Cluster((0, 1, 9), (2, 3, 0), (4, 5, 8)))
        self.assertEqual(self.cluster.with_store(rack=0, room=99, rate=1), Cluster((0, 1, 0), (2, 3, 99), (4, 5, 1)))
        self.assertEqual(self.cluster.with_store(99, 1, 1).store_count, 3)

    def test_another_room_rack_and_rate(self):
        self.assertEqual(self.cluster.with_room(0, 99), Cluster((0, 1), (99, 3), (4, 5)))
        self.assertEqual(self.cluster.with_room(store=1, room=0), Cluster((0, 1), (2, 0), (4, 5)))
        self.assertEqual(self.cluster.with_rack(1, 0), Cluster((0, 0), (2, 3), (4, 5)))
        self.assertEqual(self.cluster.with_rack(store=0, rack=99), Cluster((99, 1), (2, 3), (4, 5)))
        self.assertEqual(self.cluster.with_rate(0, 1), Cluster((0, 1), (2, 3), (1, 5)))
        self.assertEqual(self.cluster.with_rate(store=1, rate=8), Cluster((0, 1), (2, 3), (4, 8)))

    def test_eight_stores_come_before_wrong_numbers(self):
        full = Cluster(list(range(8)), list(range(8)), [1] * 8)
        for numbers in ((1, 1, 1), (-1, None, True)):
            self.assert_raised(TooMany, {"what": "stores"}, full.with_store, *numbers)
        self.assertEqual(Cluster(list(range(7)), list(range(7)), [1] * 7).with_store(7, 7, 1), full)

    def test_the_first_wrong_number_of_a_store(self):
        for at, part in enumerate(PARTS):
            least, most = BOUNDS[part]
            for wrong in NO_INTEGERS + (least - 1, most + 1):
                numbers = [1] * at + [wrong] + [10 ** 6] * (2 - at)
                self.assert_raised(InvalidNumber, {"value": wrong}, self.cluster.with_store, *numbers)

    def test_wrong_stores_and_numbers(self):
        for name, part in (("with_room", "rooms"), ("with_rack", "racks"), ("with_rate", "rates")):
            call = getattr(self.cluster, name)
            least, most = BOUNDS[part]
            for wrong in NO_INTEGERS + (-1, 2, 8):
                self.assert_raised(InvalidNumber, {"value": wrong}, call, wrong, 1)
                self.assert_raised(InvalidNumber, {"value": wrong}, call, wrong, 100)
            for wrong in NO_INTEGERS + (least - 1, most + 1):
                self.assert_raised(InvalidNumber, {"value": wrong}, call, 1, wrong)


if __name__ == "__main__":
    unittest.main()
