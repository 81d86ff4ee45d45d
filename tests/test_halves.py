"""Promise [14] for halves, and [1], [2] and [4] as they bear on it."""

import itertools
import random
import unittest

from helper import MovedTest, load_of, some_pairs, wrong_pairs
from movedwhole.errors import InvalidPairs
from movedwhole.halves import halved


class HalvedTest(MovedTest):

    def assert_halved(self, many, pairs):
        """That the pairs are the same ones or turned, and each store at most of half of its load at each place."""
        found = halved(many, pairs)
        self.assert_plain(found)
        self.assertEqual(len(found), len(pairs))
        for pair, told in zip(pairs, found):
            self.assertIn(told, (pair, (pair[1], pair[0])))
        for store in range(many):
            most = (load_of(store, pairs) + 1) // 2
            self.assertLessEqual(sum(pair[0] == store for pair in found), most)
            self.assertLessEqual(sum(pair[1] == store for pair in found), most)
        self.assertEqual(halved(many=many, pairs=tuple(list(pairs))), found)

    def test_no_pairs(self):
        for many in range(1, 9):
            self.assertEqual(halved(many, ()), ())

    def test_pairs_told_by_hand(self):
        self.assert_halved(2, ((0, 1),))
        self.assert_halved(2, ((0, 1), (0, 1)))
        self.assert_halved(2, ((0, 1), (1, 0), (0, 1)))
        self.assertEqual(sorted(halved(2, ((0, 1), (0, 1)))), [(0, 1), (1, 0)])
        self.assert_halved(3, ((0, 1), (2, 1), (0, 2)))
        self.assertIn(halved(3, ((0, 1), (2, 1), (0, 2))), (((0, 1), (1, 2), (2, 0)), ((1, 0), (2, 1), (0, 2))))

    def test_a_store_in_the_midst_of_all(self):
        for many in range(2, 9):
            for times in (1, 2, 3):
                self.assert_halved(many, tuple((0, store) for store in range(1, many)) * times)
                self.assert_halved(many, tuple((store, many - 1) for store in range(many - 1)) * times)

    def test_rings_and_rings_that_meet(self):
        for many in range(3, 9):
            ring = tuple((store, (store + 1) % many) for store in range(many))
            self.assert_halved(many, ring)
            self.assert_halved(many, ring[:-1] + ((0, many - 1),))
            self.assert_halved(many, ring * 2)
        self.assert_halved(5, ((0, 1), (1, 2), (2, 0), (2, 3), (4, 3), (2, 4)))
        self.assert_halved(8, ((0, 1), (0, 2), (3, 4), (3, 4), (5, 6), (6, 7), (7, 5)))

    def test_all_of_few_pairs(self):
        kinds = list(itertools.permutations(range(3), 2))
        for many in range(5):
            for pairs in itertools.product(kinds, repeat=many):
                self.assert_halved(3, pairs)

    def test_pairs_by_chance_to_two_hundred_and_forty(self):
        chance = random.Random(81)
        for many in (1, 2, 3, 5, 8, 30, 119, 240):
            for stores in range(2, 9):
                for _ in range(8):
                    self.assert_halved(stores, some_pairs(chance, stores, many))

    def test_all_pairs_alike(self):
        for many in (1, 2, 239, 240):
            self.assert_halved(8, ((6, 3),) * many)

    def test_values_that_are_no_pairs(self):
        for many in (2, 3, 8):
            for wrong in wrong_pairs(many):
                self.assert_raised(InvalidPairs, {"value": wrong}, halved, many, wrong)
        self.assert_raised(InvalidPairs, {"value": ((0, 1),)}, halved, 1, pairs=((0, 1),))


if __name__ == "__main__":
    unittest.main()
