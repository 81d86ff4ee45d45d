"""Promise [6], and [1], [2] and [4] as they bear on it."""

import unittest

from helper import EIGHT, MovedTest, NO_INTEGERS, NO_TUPLES, THREE, deep, large_worlds
from movedwhole.clusters import Cluster
from movedwhole.errors import InvalidPlacing, InvalidWishes
from movedwhole.placings import first_breach, is_placing, is_wishes, new_copies


class WishesTest(MovedTest):

    def test_wishes(self):
        for value in ((), (1,), (2,), (3,), (1, 2, 3), (3,) * 40):
            self.assertIs(is_wishes(value), True)
            self.assertIs(is_wishes(value=value), True)

    def test_no_wishes(self):
        for value in NO_TUPLES + ([1, 2], [3] * 40, ((1,),), ([1],)):
            self.assertIs(is_wishes(value), False)
        for wrong in NO_INTEGERS + (0, 4, -1, 10 ** 20):
            for place in range(3):
                value = (1,) * place + (wrong,) + (2,) * (2 - place)
                self.assertIs(is_wishes(value), False)


class IsPlacingTest(MovedTest):

    def test_placings(self):
        for value in ((), ((0,),), ((2,),), ((0, 1, 2), (1,)), ((0, 2), (0, 1), (1, 2)), ((0,),) * 40):
            self.assertIs(is_placing(THREE, value, len(value)), True)
        self.assertIs(is_placing(cluster=EIGHT, value=((7,), (0, 1, 2, 3, 4, 5, 6, 7)), many=2), True)

    def test_a_placing_of_another_number_of_pieces(self):
        for value in ((), ((0,),), ((0, 1, 2), (1,))):
            for many in (0, 1, 2, 3, 40):
                self.assertIs(is_placing(THREE, value, many), many == len(value))

    def test_no_placings(self):
        for value in NO_TUPLES:
            for many in (0, 1, 2, 3):
                self.assertIs(is_placing(THREE, value, many), False)
        self.assertIs(is_placing(THREE, [(0,)], 1), False)

    def test_wrong_lots(self):
        wrongs = ((), (1, 0), (0, 0), (0, 1, 1), (3,), (0, 3), (-1,), (-1, 0), (True,), (0, True), (False, 1),
                  (None,), ("0",), ((0,),), (0, (1,)), [0], [0, 1], "0", 0, None, True, THREE, (THREE,), deep(0, 9))
        for wrong in wrongs:
            self.assertIs(is_placing(THREE, (wrong,), 1), False)
            self.assertIs(is_placing(THREE, ((0,), wrong), 2), False)
            self.assertIs(is_placing(THREE, (wrong, (0,)), 2), False)

    def test_the_stores_are_those_of_the_cluster(self):
        self.assertIs(is_placing(EIGHT, ((7,),), 1), True)
        self.assertIs(is_placing(EIGHT, ((8,),), 1), False)
        self.assertIs(is_placing(Cluster((0,), (1,), (1,)), ((0, 1),), 1), False)


class FirstBreachTest(MovedTest):

    def setUp(self):
        # Stores 0 and 1 are on one rack; room is for two, one, none and three copies.
        self.cluster = Cluster((5, 5, 7, 8), (2, 1, 0, 3), (1, 1, 1, 1))

    def breach(self, wishes, placing):
        found = first_breach(self.cluster, wishes, placing)
        self.assert_plain(found)
        self.assertEqual(found, first_breach(cluster=self.cluster, wishes=wishes, placing=placing))
        return found

    def test_placings_that_keep_the_rules(self):
        self.assertIsNone(self.breach((), ()))
        self.assertIsNone(self.breach((1, 2, 2), ((0,), (0, 3), (1, 3))))

    def test_too_few_and_too_many_copies(self):
        self.assertEqual(self.breach((2,), ((3,),)), ("count", 0))
        self.assertEqual(self.breach((1, 1), ((3,), (0, 3))), ("count", 1))

    def test_two_stores_on_one_rack(self):
        self.assertEqual(self.breach((1, 2), ((0,), (0, 1))), ("racks", 1))
        self.assertEqual(self.breach((3,), ((0, 1, 3),)), ("racks", 0))

    def test_a_store_without_room(self):
        self.assertEqual(self.breach((1, 1), ((1,), (1,))), ("room", 1))
        self.assertEqual(self.breach((1,), ((2,),)), ("room", 2))
        self.assertEqual(self.breach((1, 1, 1), ((0,),) * 3), ("room", 0))
        self.assertEqual(self.breach((1,) * 4, ((3,),) * 4), ("room", 3))
        self.assertIsNone(self.breach((1,) * 3, ((3,),) * 3))

    def test_pieces_come_in_order_and_before_stores(self):
        self.assertEqual(self.breach((1, 2, 2), ((2,), (0, 1), (3,))), ("racks", 1))
        self.assertEqual(self.breach((1, 2, 2), ((2,), (3,), (0, 1))), ("count", 1))
        self.assertEqual(self.breach((1, 1), ((2,), (0, 1))), ("count", 1))
        self.assertEqual(self.breach((1,) * 5, ((2,), (1,), (1,), (3,), (3,))), ("room", 1))

    def test_wrong_wishes_come_first(self):
        for wrong in NO_TUPLES + ((0,), (4,), (True,), (1, None)):
            for placing in (((0,),), None, [(0,)]):
                self.assert_raised(InvalidWishes, {"value": wrong}, first_breach, self.cluster, wrong, placing)

    def test_wrong_placings(self):
        for wrong in NO_TUPLES + ((), ((0,), (1,)), ((),), ((4,),), ((1, 0),), ((True,),), ([0],), (0,)):
            self.assert_raised(InvalidPlacing, {"value": wrong}, first_breach, self.cluster, (1,), wrong)
        self.assert_raised(InvalidPlacing, {"value": ((0,),)}, first_breach, self.cluster, (), ((0,),))


class NewCopiesTest(MovedTest):

    def test_both_ways(self):
        before, after = ((0, 1), (2,), (1,)), ((1, 2), (0, 1), (1,))
        self.assertEqual(new_copies(before, after), ((0, 2), (1, 0), (1, 1)))
        self.assertEqual(new_copies(before=after, after=before), ((0, 0), (1, 2)))

    def test_alike_placings_and_no_pieces(self):
        for placing in ((), ((0,),), ((0, 1, 2), (1,))):
            self.assertEqual(new_copies(placing, placing), ())

    def test_a_part_of_a_lot(self):
        self.assertEqual(new_copies(((0, 1, 2),), ((1,),)), ())
        self.assertEqual(new_copies(((1,),), ((0, 1, 2),)), ((0, 0), (0, 2)))

    def test_forty_pieces_at_eight_stores(self):
        before, after = ((0, 1, 2, 3, 4),) * 40, ((0, 5, 6, 7),) * 40
        expected = tuple((piece, store) for piece in range(40) for store in (5, 6, 7))
        self.assertEqual(new_copies(before, after), expected)
        self.assert_plain(new_copies(before, after))
        for cluster, wishes, placing in large_worlds(1, 5):
            self.assertIs(is_wishes(wishes), True)
            self.assertIs(is_placing(cluster, placing, 40), True)
            pairs = new_copies(placing, after)
            self.assertEqual(list(pairs), sorted(set(pairs)))


if __name__ == "__main__":
    unittest.main()
