"""Promise [10], and [1], [2] and [4] as they bear on it."""

import random
import unittest

from helper import EIGHT, MovedTest, NO_TUPLES, THREE, all_good_placings, count_new, deep, large_worlds, small_worlds
from movedwhole.cheapest import fewest_new
from movedwhole.clusters import Cluster
from movedwhole.errors import InvalidPlacing, InvalidWishes, Undefined
from movedwhole.prices import price_paper, shown_by
from movedwhole.rooming import lot_lacking


def shown_by_its_words(cluster, wishes, before, paper):
    pieces, stores = paper
    shown = 0
    for piece, wish in enumerate(wishes):
        shown += wish * pieces[piece]
        for rack in sorted(set(cluster.racks)):
            values = [pieces[piece] - stores[store] - int(store not in before[piece])
                      for store in range(cluster.store_count) if cluster.racks[store] == rack]
            if max(values) > 0:
                shown -= max(values)
    for store, room in enumerate(cluster.rooms):
        shown -= room * stores[store]
    return shown


class ShownByTest(MovedTest):

    def test_papers_told_by_hand(self):
        cluster = Cluster((0, 0, 1), (1, 2, 3), (1, 1, 1))
        before = ((0,), (1, 2))
        # Wishes: 2 * 4 + 1 * 1. Racks: 3 (store 0) and 1 (store 2) of the first piece. Rooms: 1 * 1 + 2 * 2 + 3 * 2.
        paper = ((4, 1), (1, 2, 2))
        self.assertEqual(shown_by(cluster, (2, 1), before, paper), 9 - (3 + 1) - 11)
        self.assertEqual(shown_by(cluster=cluster, wishes=(2, 1), before=before, paper=paper), -6)
        self.assertEqual(shown_by(cluster, (2, 1), before, ((0, 0), (0, 0, 0))), 0)
        self.assertEqual(shown_by(cluster, (2, 1), before, ((-5, 0), (0, 0, 0))), -10)
        self.assertEqual(shown_by(cluster, (2, 1), before, ((1, 0), (0, 0, 0))), 2 - 1)
        self.assertEqual(shown_by(cluster, (2, 1), before, ((0, 1), (0, 0, 0))), 1 - 2)
        self.assertEqual(shown_by(THREE, (), (), ((), (0, 1, 2))), -27)

    def test_a_paper_that_shows_a_copy_to_be_needed(self):
        cluster = Cluster((0, 1), (1, 1), (1, 1))
        self.assertEqual(shown_by(cluster, (1, 1), ((0,), (0,)), ((1, 1), (1, 0))), 1)

    def test_papers_by_chance(self):
        chance = random.Random(31)
        for cluster, wishes, before in small_worlds(32, 300):
            paper = some_paper(chance, wishes, cluster)
            self.assertEqual(shown_by(cluster, wishes, before, paper),
                             shown_by_its_words(cluster, wishes, before, paper))

    def test_values_that_are_no_papers(self):
        pieces, stores = (1, -1), (0, 1, 2)
        wrongs = NO_TUPLES + (
            (), (pieces,), (stores, pieces), (pieces, stores, ()), [pieces, stores], (list(pieces), stores),
            (pieces, list(stores)), ((1,), stores), ((1, 1, 1), stores), (pieces, (0, 1)), (pieces, (0, 1, 2, 3)),
            ((), ()), (pieces, ()), ((), stores), (None, stores), (pieces, None), (1, stores), (pieces, 1),
            ("ab", stores), (pieces, "abc"), deep(((1, 1), (1, 1, 1)), 8),
        )
        for wrong in wrongs:
            self.assertIsNone(shown_by(THREE, (1, 2), ((0,), (1,)), wrong))
        for wrong in (True, False, None, "1", (), (1,), [1], THREE):
            self.assertIsNone(shown_by(THREE, (1, 2), ((0,), (1,)), ((wrong, 1), stores)))
            self.assertIsNone(shown_by(THREE, (1, 2), ((0,), (1,)), ((1, wrong), stores)))
            for place in range(3):
                self.assertIsNone(shown_by(THREE, (1, 2), ((0,), (1,)), (pieces, replaced(stores, place, wrong))))
        for place in range(3):
            self.assertIsNone(shown_by(THREE, (1, 2), ((0,), (1,)), (pieces, replaced(stores, place, -1))))
        self.assertIsNotNone(shown_by(THREE, (1, 2), ((0,), (1,)), (pieces, stores)))

    def test_errors_in_their_order(self):
        paper = ((0,), (0, 0, 0))
        for told in (paper, None):
            for wrong in NO_TUPLES + ((0,), (4,), (True,)):
                for before in (((0,),), None):
                    self.assert_raised(InvalidWishes, {"value": wrong}, shown_by, THREE, wrong, before, told)
            for wrong in NO_TUPLES + ((), ((3,),), ((),), ((1, 0),), ((0,), (0,))):
                self.assert_raised(InvalidPlacing, {"value": wrong}, shown_by, THREE, (1,), wrong, told)

    def test_prices_of_six_figures_at_the_limits(self):
        most = 999999
        before = ((0, 4),) * 40
        # Each piece gains most on each of four racks, as no store has a price.
        self.assertEqual(shown_by(EIGHT, (3,) * 40, before, ((most,) * 40, (0,) * 8)),
                         120 * most - 40 * (most + 3 * (most - 1)))
        self.assertEqual(shown_by(EIGHT, (3,) * 40, before, ((-most,) * 40, (most,) * 8)), -120 * most - 120 * most)
        chance = random.Random(33)
        for cluster, wishes, before in large_worlds(34, 20):
            paper = some_paper(chance, wishes, cluster, most)
            self.assertEqual(shown_by(cluster, wishes, before, paper),
                             shown_by_its_words(cluster, wishes, before, paper))


class PricePaperTest(MovedTest):

    def assert_shows(self, cluster, wishes, before, expected):
        """That the paper that is made shows just as many new copies as expected."""
        paper = price_paper(cluster, wishes, before)
        self.assert_plain(paper)
        self.assertEqual(shown_by_its_words(cluster, wishes, before, paper), expected)
        self.assertEqual(shown_by(cluster, wishes, before, paper), expected)
        self.assertEqual(price_paper(cluster=cluster, wishes=wishes, before=before), paper)

    def test_against_a_search_of_all_placings(self):
        chance = random.Random(35)
        found = 0
        for cluster, wishes, before in small_worlds(36, 600):
            news = [count_new(before, after) for after in all_good_placings(cluster, wishes)]
            if not news:
                self.assert_raised(Undefined, {"what": "room"}, price_paper, cluster, wishes, before)
                continue
            found += 1
            self.assert_shows(cluster, wishes, before, min(news))
            for _ in range(5):
                self.assertLessEqual(shown_by(cluster, wishes, before, some_paper(chance, wishes, cluster)), min(news))
        self.assertTrue(200 < found < 590)

    def test_no_pieces_and_stores_without_room(self):
        self.assert_shows(THREE, (), (), 0)
        self.assert_shows(Cluster((0, 1), (0, 0), (1, 1)), (), (), 0)
        self.assert_shows(Cluster((0, 1, 2), (0, 1, 0), (1, 1, 1)), (1,), ((0, 2),), 1)

    def test_full_stores_from_which_nothing_can_be_shifted(self):
        self.assert_shows(Cluster((0, 1), (1, 1), (1, 1)), (2,), ((0,),), 1)
        self.assert_shows(Cluster((0, 1, 2), (1, 1, 5), (1, 1, 1)), (3,), ((0, 1, 2),), 0)

    def test_forty_pieces_at_eight_stores(self):
        found = 0
        for cluster, wishes, before in large_worlds(37, 20):
            if lot_lacking(cluster, wishes) is None:
                found += 1
                self.assert_shows(cluster, wishes, before, fewest_new(cluster, wishes, before))
            else:
                self.assert_raised(Undefined, {"what": "room"}, price_paper, cluster, wishes, before)
        self.assertGreater(found, 5)

    def test_errors_in_their_order(self):
        full = Cluster((0, 1, 2), (0, 0, 0), (1, 1, 1))
        for cluster in (THREE, full):
            for wrong in NO_TUPLES + ((0,), (4,), (True,)):
                for before in (((0,),), None):
                    self.assert_raised(InvalidWishes, {"value": wrong}, price_paper, cluster, wrong, before)
            for wrong in NO_TUPLES + ((), ((3,),), ((),), ((1, 0),), ((0,), (0,))):
                self.assert_raised(InvalidPlacing, {"value": wrong}, price_paper, cluster, (1,), wrong)
        self.assert_raised(Undefined, {"what": "room"}, price_paper, full, (1,), ((0,),))


def some_paper(chance, wishes, cluster, most=4):
    """A paper of prices by chance."""
    pieces = tuple(chance.randint(-most, most) for wish in wishes)
    return (pieces, tuple(chance.randint(0, most) for store in range(cluster.store_count)))


def replaced(members, place, member):
    """The tuple with another member at the place."""
    return members[:place] + (member,) + members[place + 1:]


if __name__ == "__main__":
    unittest.main()
