"""Promise [11], and [1], [2] and [4] as they bear on it."""

import random
import unittest

from helper import (MovedTest, NO_INTEGERS, NO_TUPLES, THREE, all_moves, busiest_of, deep, large_changes, load_of,
                    small_changes, some_pairs, some_rates, wrong_pairs)
from movedwhole.errors import InvalidMoves, InvalidPairs
from movedwhole.moves import busiest, first_wrong_move, loads, pairs_of
from movedwhole.placings import new_copies

BEFORE = ((0, 1), (2,), (0,))
AFTER = ((1, 2), (0, 2), (0,))
RIGHT = ((0, 0, 2), (1, 2, 0))


class FirstWrongMoveTest(MovedTest):

    def assert_first_wrong(self, moves, expected, before=BEFORE, after=AFTER):
        """That the answer is as expected, passed by position and by name."""
        self.assertTrue(self.same(first_wrong_move(before, after, moves), expected), (moves, expected))
        self.assertTrue(self.same(first_wrong_move(before=before, after=after, moves=moves), expected))

    def test_lists_of_moves(self):
        self.assert_first_wrong(RIGHT, None)
        self.assert_first_wrong(((0, 1, 2), (1, 2, 0)), None)
        self.assert_first_wrong((), None, BEFORE, BEFORE)
        self.assert_first_wrong((), None, (), ())
        self.assert_first_wrong((), None, ((0, 1, 2),), ((1,),))
        self.assert_first_wrong(((0, 1, 0), (0, 1, 2)), None, ((1,),), ((0, 2),))

    def test_too_few(self):
        self.assert_first_wrong((), 0)
        self.assert_first_wrong(RIGHT[:1], 1)
        self.assert_first_wrong(((0, 1, 0),), 1, ((1,),), ((0, 2),))

    def test_too_many(self):
        self.assert_first_wrong(RIGHT + ((2, 0, 1),), 2)
        self.assert_first_wrong(RIGHT + RIGHT, 2)
        self.assert_first_wrong(((0, 0, 1),), 0, BEFORE, BEFORE)
        self.assert_first_wrong(((0, 0, 1),), 0, (), ())

    def test_one_left_out_put_in_doubled_or_exchanged(self):
        self.assert_first_wrong(RIGHT[1:], 0)
        self.assert_first_wrong((RIGHT[0], RIGHT[0], RIGHT[1]), 1)
        self.assert_first_wrong((RIGHT[0], RIGHT[1], RIGHT[1]), 2)
        self.assert_first_wrong((RIGHT[0], (0, 0, 3), RIGHT[1]), 1)
        self.assert_first_wrong((RIGHT[1], RIGHT[0]), 0)

    def test_one_changed(self):
        for wrong in ((1, 0, 2), (0, 2, 2), (0, 3, 2), (0, 0, 1), (0, 0, 0), (0, 0, 8), (9, 0, 2), (10 ** 30, 0, 2),
                      (0, 10 ** 30, 2), (0, 0, 10 ** 30)):
            self.assert_first_wrong((wrong, RIGHT[1]), 0)
        for wrong in ((2, 2, 0), (1, 0, 0), (1, 1, 0), (1, 2, 1), (1, 2, 2), (0, 2, 0)):
            self.assert_first_wrong((RIGHT[0], wrong), 1)

    def test_an_elder_copy_that_after_has_no_more_may_be_taken_of(self):
        self.assert_first_wrong(((0, 0, 1),), None, ((0,),), ((1,),))

    def test_a_new_copy_is_never_taken_of_a_new_one(self):
        self.assert_first_wrong(((0, 0, 1), (0, 1, 2)), 1, ((0,),), ((0, 1, 2),))

    def test_all_lists_of_small_changes_and_what_is_near_them(self):
        chance = random.Random(51)
        for cluster, before, after in small_changes(52, 150):
            right = list(all_moves(before, after))[:200]
            for moves in right:
                self.assert_first_wrong(moves, None, before, after)
                self.assert_first_wrong(moves + ((0, 0, 0),), len(moves), before, after)
                if not moves:
                    continue
                place = chance.randrange(len(moves))
                self.assert_first_wrong(moves[:place], place, before, after)
                twice = moves[:place + 1] + moves[place:]
                self.assert_first_wrong(twice, place + 1, before, after)
                near = list(moves[place])
                near[chance.randrange(3)] = chance.randrange(6)
                near = moves[:place] + (tuple(near),) + moves[place + 1:]
                self.assert_first_wrong(near, None if near in right else place, before, after)

    def test_a_hundred_and_twenty_new_copies(self):
        for cluster, before, after in large_changes(53, 3):
            moves = tuple((piece, before[piece][0], store) for piece, store in new_copies(before, after))
            self.assertEqual(len(moves), 120)
            self.assert_first_wrong(moves, None, before, after)
            self.assert_first_wrong(moves[:119], 119, before, after)
            self.assert_first_wrong(moves + moves, 120, before, after)

    def test_values_that_are_no_tuples_of_triples_of_numbers(self):
        members = [(), (0,), (0, 0), (0, 0, 2, 0), [0, 0, 2], 0, "002", None, THREE, ((0, 0, 2),), deep((0, 0, 2), 8)]
        for wrong in NO_INTEGERS + (-1,):
            members += [(wrong, 0, 2), (0, wrong, 2), (0, 0, wrong)]
        wrongs = list(NO_TUPLES) + [(0, 0, 2), list(RIGHT), deep(RIGHT, 8)]
        for member in members:
            wrongs += [(member,), (member, RIGHT[1]), (RIGHT[0], member), RIGHT + (member,), RIGHT[1:] + (member,)]
        for wrong in wrongs:
            self.assert_raised(InvalidMoves, {"value": wrong}, first_wrong_move, BEFORE, AFTER, wrong)
            self.assert_raised(InvalidMoves, {"value": wrong}, first_wrong_move, (), (), moves=wrong)


class LoadsTest(MovedTest):

    def test_pairs_told_by_hand(self):
        self.assertEqual(loads(3, ()), (0, 0, 0))
        self.assertEqual(loads(1, ()), (0,))
        self.assertEqual(loads(3, ((0, 1),)), (1, 1, 0))
        self.assertEqual(loads(many=4, pairs=((0, 1), (1, 0), (0, 1), (2, 0))), (4, 3, 1, 0))

    def test_pairs_by_chance(self):
        chance = random.Random(54)
        for many in (0, 1, 2, 7, 240):
            for stores in range(2, 9):
                pairs = some_pairs(chance, stores, many)
                found = loads(stores, pairs)
                self.assert_plain(found)
                self.assertEqual(found, tuple(load_of(store, pairs) for store in range(stores)))

    def test_values_that_are_no_pairs(self):
        for stores in (2, 3, 8):
            for wrong in wrong_pairs(stores):
                self.assert_raised(InvalidPairs, {"value": wrong}, loads, stores, wrong)
        self.assert_raised(InvalidPairs, {"value": ((0, 1),)}, loads, 1, pairs=((0, 1),))
        self.assert_raised(InvalidPairs, {"value": ((0, 0),)}, loads, 1, ((0, 0),))


class BusiestTest(MovedTest):

    def test_pairs_told_by_hand(self):
        self.assertEqual(busiest((1,), ()), 0)
        self.assertEqual(busiest((8, 1, 3), ()), 0)
        self.assertEqual(busiest((8, 8), ((0, 1),)), 1)
        self.assertEqual(busiest((2, 2), ((0, 1), (0, 1))), 1)
        self.assertEqual(busiest((2, 2), ((0, 1), (1, 0), (0, 1))), 2)
        self.assertEqual(busiest(rates=(4, 1, 2), pairs=((0, 1), (1, 0), (0, 1), (0, 2))), 3)

    def test_the_busiest_by_rate_has_not_always_the_greatest_load(self):
        pairs = ((0, 1), (0, 2), (0, 1), (0, 2), (0, 2))
        self.assertEqual(busiest((8, 1, 4), pairs), 2)
        self.assertEqual(busiest((8, 8, 1), pairs), 3)
        self.assertEqual(busiest((1, 1, 1), pairs), 5)

    def test_pairs_by_chance(self):
        chance = random.Random(55)
        for many in (0, 1, 2, 7, 240):
            for stores in range(2, 9):
                for _ in range(5):
                    pairs, rates = some_pairs(chance, stores, many), some_rates(chance, stores)
                    self.assert_plain(busiest(rates, pairs))
                    self.assertEqual(busiest(rates, pairs), busiest_of(rates, pairs))

    def test_values_that_are_no_pairs(self):
        for rates in ((1, 1), (2, 8, 3), (1,) * 8):
            for wrong in wrong_pairs(len(rates)):
                self.assert_raised(InvalidPairs, {"value": wrong}, busiest, rates, wrong)
        self.assert_raised(InvalidPairs, {"value": ((0, 1),)}, busiest, (8,), pairs=((0, 1),))


class PairsOfTest(MovedTest):

    def test_givers_and_takers_in_order(self):
        self.assertEqual(pairs_of(()), ())
        self.assertEqual(pairs_of(RIGHT), ((0, 2), (2, 0)))
        self.assertEqual(pairs_of(moves=((3, 1, 0), (0, 1, 0), (7, 0, 1))), ((1, 0), (1, 0), (0, 1)))
        self.assert_plain(pairs_of(RIGHT))

    def test_moves_may_be_of_no_change(self):
        moves = tuple((piece % 40, piece % 7, 7) for piece in range(240))
        self.assertEqual(pairs_of(moves), tuple((piece % 7, 7) for piece in range(240)))


if __name__ == "__main__":
    unittest.main()
