"""Promise [23], and [1], [2] and [4] as they bear on it."""

import itertools
import random
import time
import unittest

from helper import (EIGHT, MovedTest, NO_INTEGERS, NO_TUPLES, THREE, all_good_placings, ceiling, count_new, deep,
                    large_changes, large_worlds, small_changes, small_worlds, some_rates, tight_worlds)
from movedwhole.cheapest import fewest_new
from movedwhole.clusters import Cluster
from movedwhole.errors import InvalidNumber, InvalidPlacing, InvalidWishes, Undefined
from movedwhole.intakes import gate_paper, gate_shown, gentle_placing, intake, least_intake
from movedwhole.placings import first_breach
from movedwhole.prices import price_paper, shown_by
from movedwhole.rooming import lot_lacking

# Two pieces must leave store 0; store 1 could take both, store 2 is full of a
# piece that could go on to store 3, where the two cannot go for store 4's rack.
CHAIN = (Cluster((0, 1, 2, 3, 3), (0, 9, 1, 9, 9), (1, 1, 1, 1, 1)), (2, 2, 1), ((0, 4), (0, 4), (2,)))


def intake_of(rates, before, after):
    """What intake is, by its words."""
    most = 0
    for store, rate in enumerate(rates):
        fresh = [1 for elder, lot in zip(before, after) if store in lot and store not in elder]
        most = max(most, ceiling(len(fresh), rate))
    return most


def shown_of(cluster, wishes, before, most, paper):
    """What a gate paper shows, by its words."""
    prices, rents, gates = paper
    total = sum(wish * price for wish, price in zip(wishes, prices))
    for lot, price in zip(before, prices):
        for rack in set(cluster.racks):
            total -= max([0] + [price - rents[store] - (0 if store in lot else 1 + gates[store])
                                for store in range(cluster.store_count) if cluster.racks[store] == rack])
    total -= sum(room * rent for room, rent in zip(cluster.rooms, rents))
    return total - sum(rate * most * gate for rate, gate in zip(cluster.rates, gates))


def worlds(seed, many):
    """Small worlds of several kinds, with rates."""
    chance = random.Random(seed)
    for cluster, wishes, before in itertools.chain(small_worlds(seed, many), tight_worlds(seed, many)):
        yield Cluster(cluster.racks, cluster.rooms, some_rates(chance, cluster.store_count)), wishes, before
    yield from chain_worlds(seed, many // 5)


def chain_worlds(seed, many):
    """Worlds alike CHAIN, with other rooms and rates and some other pieces: less intake often costs copies more."""
    chance = random.Random(seed)
    for _ in range(many):
        names = chance.sample(range(5), 5)
        kinds = [(2, (0, 4)), (2, (0, 4)), (1, (2,)), chance.choice([(1, (2,)), (2, (0, 4)), (1, (0,)), (2, (1, 2))])]
        pieces = [(wish, tuple(sorted(names[store] for store in lot))) for wish, lot in chance.sample(kinds, 4)]
        before = tuple(lot for wish, lot in pieces)
        rooms, racks = [0] * 5, [0] * 5
        for store, name in enumerate(names):
            racks[name] = (0, 1, 2, 3, 3)[store]
            held = sum(name in lot for lot in before)
            rooms[name] = (0, 9, held, 9, 9)[store] + (chance.random() < 0.1)
        yield Cluster(racks, rooms, some_rates(chance, 5, (1, 1, 1, 2))), tuple(wish for wish, lot in pieces), before


class IntakeTest(MovedTest):

    def test_intakes_told_by_hand(self):
        for before, after, expected in ((((0,),), ((0,),), 0), (((0,),), ((1,),), 1), (((0,), (0,)), ((1,), (1,)), 2),
                                        (((0,),) * 5, ((2,),) * 5, 3), (((0,),) * 3, ((1, 2),) * 3, 3),
                                        (((0, 1), (1,)), ((0,), (0,)), 1), ((), (), 0)):
            self.assertTrue(self.same(intake((1, 1, 2), before, after), expected), (before, after))
            self.assertEqual(intake(rates=(1, 1, 2), before=before, after=after), expected)

    def test_intakes_by_the_words(self):
        for cluster, before, after in itertools.chain(small_changes(231, 300), large_changes(232, 10)):
            expected = intake_of(cluster.rates, before, after)
            self.assertTrue(self.same(intake(cluster.rates, before, after), expected))
            self.assertEqual(intake(list(cluster.rates), before, after), expected)


class GentleTest(MovedTest):

    def assert_gentle(self, cluster, wishes, before, fewest, least):
        """That the placing has the fewest new copies and just the least intake, and keeps the rules."""
        self.assertTrue(self.same(least_intake(cluster, wishes, before), least), (cluster.rooms, wishes, before))
        self.assertEqual(least_intake(cluster=cluster, wishes=wishes, before=before), least)
        placing = gentle_placing(cluster, wishes, before)
        self.assert_plain(placing)
        self.assertIsNone(first_breach(cluster, wishes, placing))
        self.assertEqual(count_new(before, placing), fewest)
        self.assertEqual(intake_of(cluster.rates, before, placing), least)
        self.assertEqual(gentle_placing(cluster=cluster, wishes=wishes, before=before), placing)

    def test_placings_told_by_hand(self):
        self.assert_gentle(THREE, (), (), 0, 0)
        self.assert_gentle(THREE, (1, 2), ((0,), (0, 1)), 0, 0)
        self.assert_gentle(Cluster((0, 1, 2), (0, 9, 9), (1, 1, 1)), (1,) * 4, ((0,),) * 4, 4, 2)
        self.assert_gentle(Cluster((0, 1, 2), (0, 9, 9), (1, 1, 3)), (1,) * 4, ((0,),) * 4, 4, 1)
        self.assert_gentle(Cluster((0, 1, 2), (0, 3, 1), (1, 1, 8)), (1,) * 4, ((0,),) * 4, 4, 3)

    def test_less_intake_would_cost_a_copy_more(self):
        cluster, wishes, before = CHAIN
        self.assert_gentle(cluster, wishes, before, 2, 2)
        self.assertEqual(min(intake_of(cluster.rates, before, good) for good in all_good_placings(cluster, wishes)), 1)

    def test_against_a_search_of_all_placings(self):
        found, costly = 0, 0
        for cluster, wishes, before in worlds(233, 400):
            told = [(count_new(before, good), intake_of(cluster.rates, before, good))
                    for good in all_good_placings(cluster, wishes)]
            if told:
                found += 1
                self.assert_gentle(cluster, wishes, before, *min(told))
                costly += any(most < min(told)[1] for _, most in told)
            else:
                for call in (least_intake, gentle_placing):
                    self.assert_raised(Undefined, {"what": "room"}, call, cluster, wishes, before)
        self.assertTrue(300 < found < 870)
        self.assertGreater(costly, 10)

    def test_forty_pieces_at_eight_stores_in_a_short_time(self):
        start = time.process_time()
        placing = gentle_placing(EIGHT, (3,) * 40, ((0,),) * 40)
        self.assertEqual(intake_of(EIGHT.rates, ((0,),) * 40, placing), least_intake(EIGHT, (3,) * 40, ((0,),) * 40))
        found = 0
        for cluster, wishes, before in large_worlds(234, 20):
            if lot_lacking(cluster, wishes) is None:
                found += 1
                least = least_intake(cluster, wishes, before)
                fewest = fewest_new(cluster, wishes, before)
                self.assert_gentle(cluster, wishes, before, fewest, least)
                if least:
                    self.assert_no_less(cluster, wishes, before, fewest, least)
        self.assertGreater(found, 5)
        self.assertLess(time.process_time() - start, 30)

    def assert_no_less(self, cluster, wishes, before, fewest, least):
        """That, as a gate paper shows or for want of room, less intake costs more copies."""
        try:
            paper = gate_paper(cluster, wishes, before, least - 1)
        except Undefined:
            return
        self.assertGreater(shown_of(cluster, wishes, before, least - 1, paper), fewest)

    def test_errors_in_their_order(self):
        full = Cluster((0, 1, 2), (0, 0, 0), (1, 1, 1))
        for call in (least_intake, gentle_placing):
            for wrong in NO_TUPLES + ((0,), (4,), (True,), (1, None), [1]):
                for before in (((0,),), None, ((9,),)):
                    self.assert_raised(InvalidWishes, {"value": wrong}, call, full, wrong, before)
            for wrong in NO_TUPLES + ((), ((0,), (1,)), ((),), ((3,),), ((1, 0),), ((True,),), ([0],), (0,)):
                self.assert_raised(InvalidPlacing, {"value": wrong}, call, full, (1,), wrong)
            self.assert_raised(Undefined, {"what": "room"}, call, full, (1,), ((0,),))
            self.assert_raised(Undefined, {"what": "room"}, call, cluster=THREE, wishes=(3,) * 10, before=((0,),) * 10)


class GateTest(MovedTest):

    def assert_paper(self, cluster, wishes, before, most, fewest):
        """That the paper made is a gate paper and shows the fewest new copies."""
        paper = gate_paper(cluster, wishes, before, most)
        self.assert_plain(paper)
        self.assertEqual([len(part) for part in paper], [len(wishes), cluster.store_count, cluster.store_count])
        self.assertTrue(all(number >= 0 for part in paper[1:] for number in part))
        self.assertTrue(all(abs(number) < 10 ** 6 for part in paper for number in part))
        self.assertEqual(shown_of(cluster, wishes, before, most, paper), fewest)
        self.assertTrue(self.same(gate_shown(cluster, wishes, before, most, paper), fewest))
        self.assertEqual(gate_paper(cluster=cluster, wishes=wishes, before=before, most=most), paper)

    def test_papers_told_by_hand(self):
        cluster, wishes, before = CHAIN
        self.assert_paper(cluster, wishes, before, 2, 2)
        self.assert_paper(cluster, wishes, before, 1, 3)
        self.assert_raised(Undefined, {"what": "room"}, gate_paper, cluster, wishes, before, 0)
        self.assert_paper(THREE, (), (), 0, 0)
        self.assert_paper(THREE, (1, 2), ((0,), (0, 1)), 0, 0)

    def test_against_a_search_of_all_placings(self):
        found, lacking, more = 0, 0, 0
        for cluster, wishes, before in worlds(235, 250):
            told = [(count_new(before, good), intake_of(cluster.rates, before, good))
                    for good in all_good_placings(cluster, wishes)]
            for most in (0, 1, 2, 3, 200):
                news = [new for new, needed in told if needed <= most]
                if news:
                    found += 1
                    more += min(news) > min(told)[0]
                    self.assert_paper(cluster, wishes, before, most, min(news))
                else:
                    lacking += 1
                    self.assert_raised(Undefined, {"what": "room"}, gate_paper, cluster, wishes, before, most)
        self.assertTrue(found > 500 and lacking > 200 and more > 10, (found, lacking, more))

    def test_no_paper_shows_more_than_any_placing_needs(self):
        chance = random.Random(236)
        for cluster, wishes, before in worlds(237, 60):
            told = [(count_new(before, good), intake_of(cluster.rates, before, good))
                    for good in all_good_placings(cluster, wishes)]
            for _ in range(20):
                paper = self.some_paper(chance, len(wishes), cluster.store_count)
                most = chance.randrange(4)
                shown = gate_shown(cluster, wishes, before, most, paper)
                self.assertTrue(self.same(shown, shown_of(cluster, wishes, before, most, paper)))
                named = {"cluster": cluster, "wishes": wishes, "before": before, "most": most, "paper": paper}
                self.assertEqual(gate_shown(**named), shown)
                self.assertTrue(all(shown <= new for new, needed in told if needed <= most))

    def some_paper(self, chance, pieces, stores):
        """A gate paper by chance."""
        top = chance.choice((1, 2, 9, 999999))
        return (tuple(chance.randint(-top if chance.random() < 0.2 else 0, top) for piece in range(pieces)),
                tuple(chance.choice((0, chance.randint(0, top))) for store in range(stores)),
                tuple(chance.choice((0, chance.randint(0, top))) for store in range(stores)))

    def test_papers_whose_numbers_are_told_by_hand(self):
        cluster = Cluster((0, 0, 1), (1, 2, 3), (1, 2, 3))
        # 2 * 5, less 5 - 1 on rack 0 (store 0 has it), less 5 - 0 - 1 - 2 on rack 1, less rents 1 + 6, less gates 12.
        self.assertEqual(gate_shown(cluster, (2,), ((0,),), 2, ((5,), (1, 3, 0), (0, 0, 2))), 10 - 4 - 2 - 7 - 12)
        self.assertEqual(gate_shown(cluster, (2,), ((0,),), 0, ((5,), (1, 3, 0), (0, 0, 2))), 10 - 4 - 2 - 7)
        self.assertEqual(gate_shown(cluster, (2,), ((0,),), 9, ((-5,), (0, 0, 0), (0, 0, 0))), -10)

    def test_without_gates_it_is_a_paper_of_prices(self):
        for cluster, wishes, before in worlds(238, 40):
            if next(all_good_placings(cluster, wishes), None) is not None:
                prices, rents = price_paper(cluster, wishes, before)
                paper = (prices, rents, (0,) * cluster.store_count)
                self.assertEqual(gate_shown(cluster, wishes, before, 7, paper),
                                 shown_by(cluster, wishes, before, (prices, rents)))

    def test_forty_pieces_at_eight_stores_in_a_short_time(self):
        start = time.process_time()
        for cluster, wishes, before in large_worlds(239, 20):
            if lot_lacking(cluster, wishes) is None:
                least = least_intake(cluster, wishes, before)
                fewest = fewest_new(cluster, wishes, before)
                for most in (least, least + 1, 200):
                    self.assert_paper(cluster, wishes, before, most, fewest)
        self.assertLess(time.process_time() - start, 30)

    def test_any_value_that_is_no_gate_paper(self):
        right = ((1, -2), (0, 1, 2), (3, 0, 4))
        before = ((0,), (1,))
        self.assertIsNotNone(gate_shown(THREE, (1, 1), before, 1, right))
        wrongs = list(NO_TUPLES) + [(), right[:2], right + ((0, 0, 0),), list(right), (right,), deep(right, 7)]
        for part in range(3):
            members = list(NO_TUPLES) + [(), right[part][:-1], right[part] + (0,), list(right[part])]
            for place in range(len(right[part])):
                numbers = NO_INTEGERS + ((-1,) if part else ())
                members += [right[part][:place] + (number,) + right[part][place + 1:] for number in numbers]
            wrongs += [right[:part] + (member,) + right[part + 1:] for member in members]
        for wrong in wrongs:
            self.assertIsNone(gate_shown(THREE, (1, 1), before, 1, wrong), wrong)

    def test_errors_in_their_order(self):
        full = Cluster((0, 1, 2), (0, 0, 0), (1, 1, 1))
        paper = ((0,), (0, 0, 0), (0, 0, 0))
        for wrong in NO_TUPLES + ((0,), (4,), (True,), (1, None), [1]):
            for before in (((0,),), None, ((9,),)):
                self.assert_raised(InvalidWishes, {"value": wrong}, gate_paper, full, wrong, before, -1)
                for value in (paper, None):
                    self.assert_raised(InvalidWishes, {"value": wrong}, gate_shown, full, wrong, before, 1, value)
        for wrong in NO_TUPLES + ((), ((0,), (1,)), ((),), ((3,),), ((1, 0),), ((True,),), ([0],), (0,)):
            self.assert_raised(InvalidPlacing, {"value": wrong}, gate_paper, full, (1,), wrong, -1)
            for value in (paper, None):
                self.assert_raised(InvalidPlacing, {"value": wrong}, gate_shown, full, (1,), wrong, 1, value)
        for wrong in NO_INTEGERS + (-1, -200):
            for cluster in (THREE, full):
                self.assert_raised(InvalidNumber, {"value": wrong}, gate_paper, cluster, (1,), ((0,),), wrong)
        for most in (0, 1, 200):
            self.assert_raised(Undefined, {"what": "room"}, gate_paper, full, (1,), ((0,),), most)
        self.assert_raised(Undefined, {"what": "room"}, gate_paper,
                           cluster=Cluster((0, 1), (0, 9), (1, 1)), wishes=(1,), before=((0,),), most=0)


if __name__ == "__main__":
    unittest.main()
