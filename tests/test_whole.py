"""What the document says over the whole program, on small worlds, by trying all."""

import copy
import itertools
import random
import unittest

from helper import (MovedTest, all_good_placings, all_lots, all_moves, ceiling, count_new, has_excess, journal_of,
                    load_of, small_changes, small_worlds, some_world)
from movedwhole.cheapest import fewest_new, fewest_placing
from movedwhole.clusters import Cluster
from movedwhole.evenplans import even_plan
from movedwhole.moves import pairs_of
from movedwhole.placings import first_breach
from movedwhole.plans import plan_length
from movedwhole.prices import price_paper, shown_by
from movedwhole.rooming import lacks_room, lot_lacking, some_placing
from movedwhole.runs import Run, resumed
from movedwhole.sources import chosen_moves, least_busiest, lot_value_of


def value_of(cluster, before, after, lot):
    """The new copies at the lot's stores and those of pieces that it alone has, by its rates, rounded up."""
    total = 0
    for elder, wanted in zip(before, after):
        fresh = [store for store in wanted if store not in elder]
        total += sum(store in lot for store in fresh) + len(fresh) * (set(elder) <= set(lot))
    return ceiling(total, sum(cluster.rates[store] for store in lot))


def fewest_rounds_of(cluster, before, after):
    """The fewest rounds over all choices of givers and all plans, by trying all."""
    fewest = None
    for moves in all_moves(before, after):
        pairs = [(giver, taker) for _, giver, taker in moves]
        for plan in itertools.product(range(len(pairs)), repeat=len(pairs)):
            length = plan_length(plan)
            if (fewest is None or length < fewest) and not has_excess(cluster.rates, pairs, plan):
                fewest = length
    return fewest


class WholeTest(MovedTest):

    def test_the_example(self):
        cluster = Cluster((0, 1, 2), (9, 9, 9), (2, 2, 2))
        self.assertEqual((least_busiest(cluster, ((0,), (0,)), ((1,), (2,))),
                          lot_value_of(cluster, ((0,), (0,)), ((1,), (2,)), (0,))), (1, 1))

    def test_for_even_rates_the_fewest_rounds_are_the_greatest_value_of_a_lot(self):
        lengths = []
        for cluster, before, after in small_changes(301, 700, (2, 2, 2, 4)):
            if count_new(before, after) > 5:
                continue
            greatest = max(value_of(cluster, before, after, lot) for lot in all_lots(cluster.store_count)[1:])
            lengths.append(greatest)
            self.assertEqual(fewest_rounds_of(cluster, before, after), greatest)
            self.assertEqual(least_busiest(cluster, before, after), greatest)
            pairs = pairs_of(chosen_moves(cluster, before, after))
            self.assertEqual(plan_length(even_plan(cluster.rates, pairs)), greatest)
        self.assertTrue(lengths.count(1) > 50 and lengths.count(2) > 20, lengths)

    def test_a_placing_exists_if_no_lot_lacks_room_and_prices_show_the_fewest_new_copies(self):
        for cluster, wishes, before in small_worlds(302, 250):
            goods = list(all_good_placings(cluster, wishes))
            lacking = [lot for lot in all_lots(cluster.store_count) if lacks_room(cluster, wishes, lot)]
            self.assertEqual(bool(goods), not lacking)
            self.assertEqual(lot_lacking(cluster, wishes) is None, not lacking)
            if goods:
                fewest = min(count_new(before, good) for good in goods)
                self.assertIn(some_placing(cluster, wishes), goods)
                self.assertIn(fewest_placing(cluster, wishes, before), goods)
                self.assertEqual(fewest_new(cluster, wishes, before), fewest)
                self.assertEqual(shown_by(cluster, wishes, before, price_paper(cluster, wishes, before)), fewest)

    def test_whatever_moves_fail_no_more_rounds_than_told(self):
        chance = random.Random(303)
        self.ended = 0
        for _ in range(120):
            rates = chance.choice(((2,), (2, 4)))
            cluster, wishes, before = some_world(chance, chance.randint(2, 4), chance.randint(1, 4), rates)
            run = Run(cluster, wishes, before)
            greatest = max(value_of(cluster, before, run.journal()[1][1], lot)
                           for lot in all_lots(cluster.store_count)[1:])
            self.try_all_failures(cluster, run, greatest, 2)
        self.assertGreater(self.ended, 100)

    def try_all_failures(self, cluster, run, bound, failures):
        """Tries all outcomes of all rounds, with moves failing in so many at most; the bound grows by excuses."""
        if not run.left():
            self.ended += 1
            self.assertLessEqual(run.rounds(), bound)
            self.assertIsNone(first_breach(cluster, tuple(len(lot) for lot in run.disk()), run.disk()))
            return
        moves = run.left()[0]
        pairs = [move[1:] for members in run.left() for move in members]
        busy = [store for store, rate in enumerate(cluster.rates)
                if ceiling(load_of(store, pairs), rate) == len(run.left())]
        for outcomes in itertools.product(("done", "failed"), repeat=len(moves)):
            failed = [move for move, outcome in zip(moves, outcomes) if outcome == "failed"]
            if len(moves) < 4 and (not failed or failures):
                again = copy.deepcopy(run)
                again.go(outcomes)
                excused = any(giver in busy or taker in busy for _, giver, taker in failed)
                self.try_all_failures(cluster, again, bound + excused, failures - bool(failed))

    def test_wherever_a_run_is_cut_the_journal_tells_copies_that_are_there(self):
        chance = random.Random(304)
        self.cuts = 0
        for _ in range(200):
            cluster, wishes, before = some_world(chance, chance.randint(2, 5), chance.randint(1, 4))
            self.cut_everywhere(chance, cluster, wishes, Run(cluster, wishes, before))
        self.assertGreater(self.cuts, 200)

    def cut_everywhere(self, chance, cluster, wishes, run):
        """Cuts each round of the run at each of its steps, and goes on from where it was cut in two ways."""
        begun = run.journal()[0][1]
        while run.left():
            outcomes = tuple(chance.choice(("done", "done", "torn", "failed")) for move in run.left()[0])
            whole = copy.deepcopy(run)
            for steps in range(whole.go(outcomes)):
                cut = copy.deepcopy(run)
                cut.go(outcomes, steps)
                self.cuts += 1
                self.assert_whole(cluster, cut, begun)
                again = resumed(cluster, wishes, cut.journal())
                cut.wake()
                self.assert_whole(cluster, cut, begun)
                self.assertEqual((again.journal(), again.disk()), (cut.journal(), cut.disk()))
                for other in (again, cut):
                    self.lead_on(other)
            run = whole

    def lead_on(self, run):
        """Leads the run to its end without a failed move."""
        while run.left():
            run.go(("done",) * len(run.left()[0]))
        self.assertEqual(run.disk(), run.journal()[1][1])

    def assert_whole(self, cluster, run, begun):
        """That each copy told is there, and that each piece stands at all of before or at all of in_force."""
        wrong, stands, force = journal_of(cluster, run.journal())
        self.assertIsNone(wrong)
        for lot, lying, elder, wanted in zip(stands, run.disk(), begun, force):
            self.assertTrue(set(lot) <= set(lying))
            self.assertTrue(set(elder) <= set(lot) or set(wanted) <= set(lot))


if __name__ == "__main__":
    unittest.main()
