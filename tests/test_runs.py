"""Promises [17] to [19], and [1] to [4] as they bear on them."""

import copy
import random
import time
import unittest

from helper import (EIGHT, MovedTest, NO_INTEGERS, NO_TUPLES, THREE, all_good_placings, ceiling, count_new,
                    deep, has_excess, journal_of, load_of, some_world)
from movedwhole.clusters import Cluster
from movedwhole.errors import (InvalidJournal, InvalidNumber, InvalidOutcomes, InvalidPlacing, InvalidWishes, MoveError,
                               Undefined)
from movedwhole.moves import first_wrong_move
from movedwhole.runs import Run, resumed
from movedwhole.sources import least_busiest

OUTCOMES = ("done", "failed", "torn")
FULL = Cluster((0, 1, 2), (0, 0, 1), (2, 2, 2))


def state_of(run):
    """All that can be asked of a run."""
    return (run.journal(), run.disk(), run.left(), run.is_awake(), run.rounds())


class RunTest(MovedTest):
    """Checks of runs by the words of the promises alone."""

    def assert_whole(self, cluster, journal, disk):
        """That the journal is right, its copies lie there, and each piece stands at all of before or of in_force."""
        wrong, stands, force = journal_of(cluster, journal)
        self.assertIsNone(wrong, journal)
        changes = [place for place, line in enumerate(journal) if line[0] == "change"]
        begun = journal_of(cluster, journal[:changes[-1]])[1] if changes else stands
        for piece, lot in enumerate(stands):
            self.assertTrue(set(lot) <= set(disk[piece]))
            self.assertTrue(set(begun[piece]) <= set(lot) or set(force[piece]) <= set(lot))

    def assert_left(self, cluster, run):
        """That what is left leads from where the pieces stand to the placing in force."""
        _, stands, force = journal_of(cluster, run.journal())
        left = run.left()
        self.assert_plain((run.journal(), run.disk(), left, run.rounds()))
        self.assertIs(type(run.is_awake()), bool)
        moves = sorted((move for moves in left for move in moves), key=lambda move: (move[0], move[2]))
        self.assertIsNone(first_wrong_move(stands, force, tuple(moves)))
        for moves in left:
            self.assertTrue(moves)
            pairs = [(giver, taker) for _, giver, taker in moves]
            self.assertFalse(has_excess(cluster.rates, pairs, (0,) * len(pairs)))
        if not any(rate % 2 for rate in cluster.rates):
            self.assertEqual(len(left), least_busiest(cluster, stands, force))
        self.assert_whole(cluster, run.journal(), run.disk())

    def assert_begun(self, cluster, run):
        """That a change begins as it must: no drop is due, no round is gone, not too many are left."""
        self.assert_left(cluster, run)
        wrong, stands, force = journal_of(cluster, run.journal())
        for lot, wanted in zip(stands, force):
            self.assertFalse(set(wanted) < set(lot))
        self.assertTrue(run.is_awake())
        self.assertEqual(run.rounds(), 0)
        self.assertLessEqual(len(run.left()), 3 * ceiling(least_busiest(cluster, stands, force), 2))

    def expected_steps(self, cluster, run, outcomes):
        """The steps of the next round by the words: behind each of them the journal and the disk."""
        journal, disk = run.journal(), [set(lot) for lot in run.disk()]
        behind = []

        def note():
            behind.append((journal, tuple(tuple(sorted(lot)) for lot in disk)))

        for (piece, _, taker), outcome in zip(run.left()[0], outcomes):
            if outcome == "failed":
                continue
            disk[piece].add(taker)
            note()
            if outcome == "torn":
                continue
            journal += (("made", piece, taker),)
            note()
            stands = journal_of(cluster, journal)[1]
            if journal_of(cluster, journal + (("dropped", piece),))[0] is None:
                journal += (("dropped", piece),)
                note()
                for store in sorted(set(stands[piece]) - set(journal_of(cluster, journal)[1][piece])):
                    disk[piece].remove(store)
                    note()
        return behind

    def assert_gone(self, cluster, before, run, outcomes, answer, steps):
        """That one round was gone as it must, from how the run was before."""
        behind = self.expected_steps(cluster, before, outcomes)
        cut = steps is not None and len(behind) > steps
        self.assertTrue(self.same(answer, steps if cut else len(behind)))
        self.assertIs(run.is_awake(), not cut)
        expected = ([(before.journal(), before.disk())] + behind)[answer]
        self.assertEqual((run.journal(), run.disk()), expected)
        self.assertEqual(run.rounds(), before.rounds() + 1)
        self.assert_left(cluster, run)
        made = [line for line in run.journal()[len(before.journal()):] if line[0] == "made"]
        if len(made) == len(outcomes):
            self.assertLess(len(run.left()), len(before.left()))
        self.assertLessEqual(len(run.left()), len(before.left()))
        for journal, disk in behind:
            self.assert_whole(cluster, journal, disk)

    def assert_woken(self, cluster, before, run):
        """That the run woke as it must, from how it was before."""
        self.assertTrue(run.is_awake())
        added = run.journal()[len(before.journal()):]
        self.assertEqual(run.journal()[:len(before.journal())], before.journal())
        wanted = before.journal()
        for line in added:
            self.assertEqual(line[0], "dropped")
            wanted += (line,)
            self.assertIsNone(journal_of(cluster, wanted)[0])
        _, stands, force = journal_of(cluster, run.journal())
        for lot, elder in zip(stands, force):
            self.assertFalse(set(elder) < set(lot))
        self.assertEqual(run.disk(), stands)
        self.assertLessEqual(len(run.left()), len(before.left()))
        self.assertEqual(run.rounds(), before.rounds())
        self.assert_left(cluster, run)


class BeginTest(RunTest):

    def test_line_by_line(self):
        run = Run(THREE, (1, 1), ((0, 1), (2,)))
        self.assertEqual(run.journal()[0], ("first", ((0, 1), (2,))))
        self.assertEqual(run.journal()[1][0], "change")
        self.assertEqual(run.journal()[2:], (("dropped", 0),))
        self.assertEqual(run.disk(), run.journal()[1][1])
        self.assertEqual(run.left(), ())
        self.assert_begun(THREE, run)

    def test_no_piece(self):
        run = Run(cluster=THREE, wishes=(), before=())
        self.assertEqual(state_of(run), ((("first", ()), ("change", ())), (), (), True, 0))

    def test_by_chance_also_by_name(self):
        chance = random.Random(171)
        for _ in range(150):
            cluster, wishes, before = some_world(chance, chance.randint(1, 5), chance.randint(0, 5))
            run = Run(cluster, wishes, before)
            self.assertEqual(run.journal()[0], ("first", before))
            word, after = run.journal()[1]
            self.assertEqual(word, "change")
            goods = list(all_good_placings(cluster, wishes))
            self.assertIn(after, goods)
            self.assertEqual(count_new(before, after), min(count_new(before, good) for good in goods))
            self.assertEqual({line[0] for line in run.journal()[2:]} - {"dropped"}, set())
            self.assertEqual(run.disk(), journal_of(cluster, run.journal())[1])
            self.assert_begun(cluster, run)
            self.assertEqual(state_of(Run(cluster=cluster, wishes=wishes, before=before)), state_of(run))

    def test_errors_in_their_order(self):
        for wrong in NO_TUPLES + ((0,), (4,), (True,), (1, None), [1]):
            for before in (((0,),), None, ((9,),)):
                self.assert_raised(InvalidWishes, {"value": wrong}, Run, THREE, wrong, before)
        for cluster in (THREE, FULL):
            for wrong in NO_TUPLES + ((), ((0,), (1,)), ((),), ((3,),), ((1, 0),), ((True,),), ([0],), (0,)):
                self.assert_raised(InvalidPlacing, {"value": wrong}, Run, cluster, (2,), wrong)
        self.assert_raised(Undefined, {"what": "room"}, Run, FULL, (2,), ((0,),))
        self.assert_raised(Undefined, {"what": "room"}, Run, cluster=FULL, wishes=(1, 1), before=((0,), (2,)))


class GoTest(RunTest):

    def run_with_three_moves(self):
        """A run in which one round has three moves, and a drop behind the first."""
        cluster = Cluster((0, 1, 2), (0, 9, 9), (8, 8, 8))
        run = Run(cluster, (1, 2), ((0,), (0,)))
        self.assertEqual([len(moves) for moves in run.left()], [3])
        return cluster, run

    def test_steps_of_a_round(self):
        cluster, run = self.run_with_three_moves()
        taker = run.journal()[1][1][0][0]
        self.assertEqual(run.go(("done", "done", "failed")), 6)
        self.assertEqual(run.journal()[2:], (("made", 0, taker), ("dropped", 0), ("made", 1, 1)))
        self.assertEqual(run.disk(), ((taker,), (0, 1)))
        self.assertEqual([[move[0::2] for move in moves] for moves in run.left()], [[(1, 2)]])
        self.assertEqual(run.rounds(), 1)
        self.assertEqual(run.go(outcomes=("torn",), steps=None), 1)
        self.assertEqual(run.disk(), ((taker,), (0, 1, 2)))
        self.assertEqual(run.go(outcomes=("done",), steps=4), 4)
        self.assertEqual(run.disk(), ((taker,), (1, 2)))
        self.assertEqual(run.left(), ())
        self.assertEqual(run.rounds(), 3)
        self.assertTrue(run.is_awake())

    def test_every_cut_of_every_outcome(self):
        for first in OUTCOMES:
            for second in OUTCOMES:
                for third in OUTCOMES:
                    self.cut_everywhere((first, second, third))

    def cut_everywhere(self, outcomes):
        cluster, before = self.run_with_three_moves()
        for steps in [None] + list(range(len(self.expected_steps(cluster, before, outcomes)) + 2)):
            cluster, run = self.run_with_three_moves()
            answer = run.go(outcomes, steps)
            self.assert_gone(cluster, before, run, outcomes, answer, steps)
            if not run.is_awake():
                cut = copy.deepcopy(run)
                self.assertIsNone(run.wake())
                self.assert_woken(cluster, cut, run)

    def test_a_round_without_steps_is_gone_and_never_cut(self):
        cluster, run = self.run_with_three_moves()
        self.assertEqual(run.go(("failed",) * 3, 0), 0)
        self.assertTrue(run.is_awake())
        self.assertEqual((run.rounds(), len(run.left())), (1, 1))
        self.assertEqual(run.go(("failed", "torn", "failed"), 0), 0)
        self.assertFalse(run.is_awake())
        self.assertEqual((run.rounds(), len(run.left())), (2, 1))

    def test_torn_copies_lie_on_the_disk_until_wake_or_made(self):
        cluster, run = self.run_with_three_moves()
        run.go(("torn", "torn", "torn"))
        full = run.disk()
        self.assertEqual(sum(len(lot) for lot in full), 5)
        run.go(("failed", "failed", "failed"))
        self.assertEqual(run.disk(), full)
        run.change(Cluster((0, 1, 2), (9, 9, 9), (8, 8, 8)), (1, 1))
        self.assertEqual(run.left(), ())
        self.assertEqual(run.disk(), full)
        run.change(Cluster((0, 1, 2), (0, 9, 9), (8, 8, 8)), (1, 1))
        self.assertEqual(run.disk(), full)
        run.go(("done", "done"), 1)
        run.wake()
        self.assertEqual(run.disk(), ((0,), (0,)))

    def test_a_dropped_line_wipes_no_torn_copy(self):
        run = Run(Cluster((0, 1, 2), (0, 9, 0), (2, 2, 2)), (1,), ((0,),))
        run.go(("torn",))
        run.change(Cluster((0, 1, 2), (0, 0, 9), (2, 2, 2)), (1,))
        self.assertEqual(run.go(("done",)), 4)
        self.assertEqual(run.journal()[-2:], (("made", 0, 2), ("dropped", 0)))
        self.assertEqual(run.disk(), ((1, 2),))

    def test_errors_in_their_order_and_that_they_change_nothing(self):
        cluster, run = self.run_with_three_moves()
        kept = state_of(run)
        wrongs = list(NO_TUPLES) + [("done",) * 2, ("done",) * 4, ["done"] * 3, "done", ("done", "done", "Done"),
                                    ("done", "done", None), ("done", ("done",), "torn"), ("", "done", "done"),
                                    (True, "done", "done"), deep("done", 9), (THREE, THREE, THREE), ()]
        for wrong in wrongs:
            for steps in (None, 0, -1, True, "1"):
                self.assert_raised(InvalidOutcomes, {"value": wrong}, run.go, wrong, steps)
        for steps in NO_INTEGERS + (-1, -7):
            if steps is not None:
                self.assert_raised(InvalidNumber, {"value": steps}, run.go, ("done",) * 3, steps)
                self.assert_raised(InvalidNumber, {"value": steps}, run.go, outcomes=("torn",) * 3, steps=steps)
        self.assertEqual(state_of(run), kept)
        run.go(("done",) * 3)
        kept = state_of(run)
        for outcomes in ((), ("done",), None):
            self.assert_raised(Undefined, {"what": "round"}, run.go, outcomes, -1)
        self.assertEqual(state_of(run), kept)

    def test_errors_of_a_run_that_is_cut(self):
        cluster, run = self.run_with_three_moves()
        self.assert_raised(Undefined, {"what": "asleep"}, run.wake)
        run.go(("done",) * 3, 2)
        kept = state_of(run)
        for outcomes in ((), ("done",) * len(run.left()[0]), None):
            self.assert_raised(Undefined, {"what": "awake"}, run.go, outcomes, -1)
        for wishes in ((1, 1), None):
            self.assert_raised(Undefined, {"what": "awake"}, run.change, FULL, wishes)
        self.assertEqual(state_of(run), kept)
        run.wake()
        kept = state_of(run)
        self.assert_raised(Undefined, {"what": "asleep"}, run.wake)
        self.assertEqual(state_of(run), kept)

    def test_a_run_that_is_cut_behind_its_last_made_line_has_nothing_left(self):
        cluster, run = self.run_with_three_moves()
        run.go(("done",) * 3, 9)
        self.assertEqual(run.left(), ())
        self.assertFalse(run.is_awake())
        self.assert_raised(Undefined, {"what": "awake"}, run.go, ())
        run.wake()
        self.assert_raised(Undefined, {"what": "round"}, run.go, ())


class ChangeTest(RunTest):

    def test_amid_to_other_rules(self):
        cluster = Cluster((0, 1, 2), (0, 9, 9), (2, 2, 2))
        run = Run(cluster, (2,), ((0,),))
        run.go(("done", "failed"))
        self.assertEqual(journal_of(cluster, run.journal())[1], ((0, 1),))
        self.assertIsNone(run.change(THREE, (1,)))
        self.assertEqual(run.journal()[3][0], "change")
        self.assertEqual(run.journal()[4:], (("dropped", 0),))
        self.assertEqual(run.disk(), run.journal()[3][1])
        self.assertEqual(run.rounds(), 0)
        self.assertEqual(run.left(), ())

    def test_to_a_store_more(self):
        run = Run(THREE, (1, 1), ((0,), (1,)))
        wider = Cluster((0, 1, 2, 3), (0, 0, 0, 2), (2, 2, 2, 2))
        run.change(cluster=wider, wishes=(1, 1))
        self.assertEqual(run.journal()[-1], ("change", ((3,), (3,))))
        self.assertEqual(run.left(), (((0, 0, 3), (1, 1, 3)),))
        self.assert_raised(Undefined, {"what": "stores"}, run.change, THREE, (1, 1))
        self.assert_begun(wider, run)

    def test_several_drops_at_once(self):
        run = Run(THREE, (3, 3, 1), ((0, 1, 2), (0, 1, 2), (0,)))
        run.change(THREE, (1, 2, 1))
        self.assertEqual(run.journal()[3:], (("dropped", 0), ("dropped", 1)))
        self.assertEqual([len(lot) for lot in run.disk()], [1, 2, 1])

    def test_errors_in_their_order_and_that_they_change_nothing(self):
        run = Run(THREE, (1, 2), ((0,), (0,)))
        run.go(("torn",) * len(run.left()[0]))
        kept = state_of(run)
        less = Cluster((0, 1), (0, 0), (1, 1))
        for wrong in NO_TUPLES + ((), (1,), (1, 1, 1), (1, 4), (0, 1), (True, 1), [1, 1]):
            self.assert_raised(InvalidWishes, {"value": wrong}, run.change, less, wrong)
        self.assert_raised(Undefined, {"what": "stores"}, run.change, less, (1, 1))
        self.assert_raised(Undefined, {"what": "room"}, run.change, FULL, (1, 1))
        self.assert_raised(Undefined, {"what": "room"}, run.change, cluster=FULL, wishes=(3, 1))
        self.assertEqual(state_of(run), kept)


class LedTest(RunTest):
    """Runs that are led by chance, checked behind every call."""

    def lead(self, chance, world, calls, rates):
        """Leads a run by chance."""
        cluster, wishes, before = world
        run = Run(cluster, wishes, before)
        self.assert_begun(cluster, run)
        self.bound, self.excuses = len(run.left()), 0
        for _ in range(calls):
            elder = copy.deepcopy(run)
            if not run.is_awake():
                run.wake()
                self.assert_woken(cluster, elder, run)
            elif not run.left() or chance.random() < 0.1:
                cluster = self.change(chance, cluster, run, rates)
                self.bound, self.excuses = len(run.left()), 0
            else:
                self.go(chance, cluster, elder, run)
            if not run.left() and not any(rate % 2 for rate in cluster.rates):
                self.assertLessEqual(run.rounds(), self.bound + self.excuses)
        return cluster, run

    def go(self, chance, cluster, elder, run):
        outcomes = tuple(chance.choice(OUTCOMES[:chance.choice((1, 3))]) for move in run.left()[0])
        steps = chance.choice((None, None, 0, 1, 2, 3, 5, 8, 13, 99))
        answer = run.go(outcomes, steps)
        self.assert_gone(cluster, elder, run, outcomes, answer, steps)
        made = run.journal()[len(elder.journal()):]
        failed = [move for move in elder.left()[0] if ("made", move[0], move[2]) not in made]
        pairs = [move[1:] for moves in elder.left() for move in moves]
        busy = [store for store, rate in enumerate(cluster.rates)
                if ceiling(load_of(store, pairs), rate) == len(elder.left())]
        self.excuses += any(giver in busy or taker in busy for _, giver, taker in failed)

    def change(self, chance, cluster, run, rates):
        """Changes the rules by chance; the cluster then in force."""
        elder = copy.deepcopy(run)
        pieces = len(run.disk())
        stands = journal_of(cluster, run.journal())[1]
        other, wishes, _ = some_world(chance, cluster.store_count, pieces, rates)
        if cluster.store_count < 5 and chance.random() < 0.3:
            other = other.with_store(chance.randrange(9), pieces, chance.choice(rates))
        try:
            run.change(other, wishes)
        except MoveError:
            self.assertEqual(state_of(run), state_of(elder))
            return cluster
        many = len(elder.journal())
        word, after = run.journal()[many]
        goods = list(all_good_placings(other, wishes))
        self.assertEqual((run.journal()[:many], word), (elder.journal(), "change"))
        self.assertIn(after, goods)
        self.assertEqual(count_new(stands, after), min(count_new(stands, good) for good in goods))
        self.assertEqual({line[0] for line in run.journal()[many + 1:]} - {"dropped"}, set())
        # Only what a dropped line puts out is wiped: what the journal did not tell ahead of it still lies there.
        behind = journal_of(other, run.journal())[1]
        untold = [set(lot) - set(stood) for lot, stood in zip(elder.disk(), stands)]
        self.assertEqual([set(lot) for lot in run.disk()], [set(told) | lay for told, lay in zip(behind, untold)])
        self.assert_begun(other, run)
        return other

    def test_small_worlds(self):
        chance = random.Random(181)
        for _ in range(60):
            self.lead(chance, some_world(chance, chance.randint(2, 5), chance.randint(1, 5)), 25, (1, 1, 2, 3))

    def test_small_worlds_of_even_rates(self):
        chance = random.Random(182)
        for _ in range(60):
            rates = chance.choice(((2,), (2, 4), (2, 2, 8)))
            self.lead(chance, some_world(chance, chance.randint(2, 5), chance.randint(1, 5), rates), 25, rates)

    def test_eight_stores_and_forty_pieces(self):
        chance = random.Random(183)
        for rates in ((1, 2, 3), (2, 4)):
            racks, rooms = (0, 1, 2, 3) * 2, (0, 0, 23, 23, 23, 23, 23, 23)
            cluster = Cluster(racks, rooms, [chance.choice(rates) for store in range(8)])
            run = Run(cluster, (3,) * 40, tuple((chance.randrange(2),) for piece in range(40)))
            self.assertEqual(sum(len(moves) for moves in run.left()), 120)
            self.bound, self.excuses = len(run.left()), 0
            for _ in range(12):
                elder = copy.deepcopy(run)
                if run.is_awake():
                    self.go(chance, cluster, elder, run)
                else:
                    run.wake()
                    self.assert_woken(cluster, elder, run)

    def test_sixty_calls_in_a_short_time(self):
        chance = random.Random(184)
        start = time.process_time()
        clusters = (Cluster((0, 1, 2, 3) * 2, (0, 0) + (23,) * 6, (1,) * 8),
                    Cluster((0, 1, 2, 3) * 2, (23,) * 6 + (0, 0), (2, 3) * 4))
        for cluster, other in (clusters, clusters[::-1]):
            run = Run(cluster, (3,) * 40, ((0,),) * 40)
            for call in range(60):
                if not run.is_awake():
                    run.wake()
                elif not run.left() or call == 40:
                    run.change(other, (3,) * 40)
                else:
                    run.go(tuple(chance.choice(OUTCOMES) for move in run.left()[0]), chance.choice((None, None, 5)))
            self.assertLessEqual(len(run.journal()), 1000)
        self.assertLess(time.process_time() - start, 20)

    def test_failing_again_and_again_never_makes_what_is_left_longer(self):
        chance = random.Random(185)
        for _ in range(30):
            cluster, wishes, before = some_world(chance, 5, 5)
            run = Run(cluster, wishes, before)
            for _ in range(6):
                elder = run.left()
                if elder:
                    run.go(tuple(chance.choice(("failed", "failed", "done")) for move in elder[0]))
                    self.assertLessEqual(len(run.left()), len(elder))

    def test_equal_calls_lead_to_equal_runs(self):
        chance = random.Random(186)
        for _ in range(20):
            world = some_world(chance, 4, 4)
            seed = chance.random()
            one, other = [self.lead(random.Random(seed), copy.deepcopy(world), 12, (1, 2, 3))[1] for _ in range(2)]
            self.assertEqual(state_of(one), state_of(other))

    def test_questions_change_nothing_and_what_they_answered_stays(self):
        chance = random.Random(187)
        for _ in range(20):
            run = Run(*some_world(chance, 4, 5))
            while run.left():
                kept = state_of(run)
                copied = copy.deepcopy(kept)
                self.assertEqual(state_of(run), kept)
                run.go(tuple(chance.choice(("done", "torn")) for move in run.left()[0]))
                self.assertEqual(kept, copied)


class ResumedTest(RunTest):

    def assert_resumed(self, cluster, wishes, journal):
        """That a run goes on from the journal, or that it is refused as it must be."""
        force = journal_of(cluster, journal)[2]
        if force not in list(all_good_placings(cluster, wishes)):
            self.assert_raised(Undefined, {"what": "rules"}, resumed, cluster, wishes, journal)
            return None
        run = resumed(cluster, wishes, journal)
        self.assertIs(type(run), Run)
        many = len(journal)
        self.assertEqual(run.journal()[:many], journal)
        for place, line in enumerate(run.journal()[many:], start=many):
            self.assertEqual(line[0], "dropped")
            self.assertIsNone(journal_of(cluster, run.journal()[:place + 1])[0])
        self.assertEqual(run.disk(), journal_of(cluster, run.journal())[1])
        self.assert_begun(cluster, run)
        self.assertEqual(state_of(resumed(cluster=cluster, wishes=wishes, journal=journal)), state_of(run))
        return run

    def test_from_every_beginning_of_a_journal(self):
        chance = random.Random(191)
        for _ in range(40):
            cluster, wishes, before = some_world(chance, chance.randint(2, 5), chance.randint(1, 4))
            run = Run(cluster, wishes, before)
            while run.left():
                run.go(tuple(chance.choice(OUTCOMES) for move in run.left()[0]))
            journal = run.journal()
            for many in range(2, len(journal) + 1):
                again = self.assert_resumed(cluster, wishes, journal[:many])
                while again.left():
                    again.go(("done",) * len(again.left()[0]))
                self.assertEqual(again.disk(), journal[1][1])
            self.assert_resumed(cluster, wishes, journal[:1])

    def test_a_journal_of_one_line(self):
        run = resumed(THREE, (1, 2), (("first", ((0,), (0, 1))),))
        self.assertEqual(state_of(run), ((("first", ((0,), (0, 1))),), ((0,), (0, 1)), (), True, 0))
        run.change(Cluster((0, 1, 2), (0, 9, 9), (2, 2, 2)), (1, 2))
        self.assertEqual(len(run.left()), 1)

    def test_what_was_torn_is_forgotten_and_a_due_drop_done(self):
        journal = (("first", ((0,), (0,))), ("change", ((1,), (1,))), ("made", 0, 1))
        run = resumed(Cluster((0, 1), (0, 2), (2, 2)), (1, 1), journal)
        self.assertEqual(run.journal(), journal + (("dropped", 0),))
        self.assertEqual(run.disk(), ((1,), (0,)))
        self.assertEqual(run.left(), (((1, 0, 1),),))

    def test_a_journal_of_a_thousand_lines(self):
        changes = [("change", ((1,),)), ("change", ((0,),))] * 500
        journal = (("first", ((0,),)),) + tuple(changes[:999])
        start = time.process_time()
        run = resumed(EIGHT, (1,), journal)
        self.assertLess(time.process_time() - start, 3)
        self.assertEqual(run.journal(), journal)
        self.assertEqual([move for moves in run.left() for move in moves], [(0, 0, 1)])

    def test_errors_in_their_order(self):
        journal = (("first", ((0,), (0,))), ("change", ((1,), (1,))))
        for wrong in NO_TUPLES + ((), list(journal), (journal[1],)):
            for wishes in ((1, 1), None):
                self.assert_raised(InvalidJournal, {"place": 0}, resumed, THREE, wishes, wrong)
        for many, line in ((1, ("made", 0, 0)), (2, ("made", 0, 0)), (2, ("dropped", 0)), (2, journal[0]), (2, None)):
            self.assert_raised(InvalidJournal, {"place": many}, resumed, THREE, None, journal[:many] + (line,))
        for wrong in NO_TUPLES + ((), (1,), (1, 1, 1), (1, 4), (True, 1), [1, 1]):
            for cluster in (THREE, FULL):
                self.assert_raised(InvalidWishes, {"value": wrong}, resumed, cluster, wrong, journal)
        for cluster, wishes in ((THREE, (2, 1)), (FULL, (1, 1)), (Cluster((0, 1), (9, 1), (1, 1)), (1, 1))):
            self.assert_raised(Undefined, {"what": "rules"}, resumed, cluster, wishes, journal)
        self.assert_resumed(Cluster((0, 1), (0, 2), (1, 1)), (1, 1), journal)


if __name__ == "__main__":
    unittest.main()
