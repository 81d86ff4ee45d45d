"""Runs: a cluster is led to another placing, round by round, where moves fail and all may be cut off at any step."""

from movedwhole.cheapest import fewest_placing
from movedwhole.errors import InvalidNumber, InvalidOutcomes, InvalidWishes, Undefined
from movedwhole.evenplans import any_plan
from movedwhole.journals import in_force, read_ledger
from movedwhole.kinds import is_number
from movedwhole.moves import pairs_of
from movedwhole.placings import first_breach, is_wishes
from movedwhole.plans import plan_length
from movedwhole.sources import chosen_moves

OUTCOMES = ("done", "failed", "torn")


class Run:
    """A journal, the disk that it is about, and the rounds of moves that are still planned.

    All that is done is done by steps (word, piece, store): "written" and
    "wiped" change the disk, "made" and "dropped" are lines of the journal.
    """

    def __init__(self, cluster, wishes, before):
        after = fewest_placing(cluster, wishes, before)
        self.take_up(cluster, (("first", before), ("change", after)))

    def take_up(self, cluster, lines):
        """Begins, awake, with the right journal of these lines and with the disk that they tell."""
        self.cluster = cluster
        self.lines = list(lines)
        self.ledger = read_ledger(cluster, lines)
        self.copies = [list(lot) for lot in self.ledger.standing]
        self.awake = True
        self.begin()

    def begin(self):
        """Does the drops that are due at the beginning of a change, and plans all that is left."""
        self.drop_due()
        self.gone = 0
        self.planned = self.fresh_plan()

    def journal(self):
        """The lines so far."""
        return tuple(self.lines)

    def disk(self):
        """For each piece the stores where a copy of it lies, told by the journal or not."""
        return tuple([tuple(sorted(lot)) for lot in self.copies])

    def left(self):
        """The rounds of moves that are still planned, the next one first."""
        return self.planned

    def is_awake(self):
        """Whether the run was not cut since it last woke."""
        return self.awake

    def rounds(self):
        """How many rounds were gone since the last change, or since the run was resumed."""
        return self.gone

    def go(self, outcomes, steps=None):
        """Does the next round, with an outcome for each of its moves; cuts the run behind so many steps."""
        if not self.awake:
            raise Undefined("awake")
        if not self.planned:
            raise Undefined("round")
        if not is_outcomes(outcomes, len(self.planned[0])):
            raise InvalidOutcomes(outcomes)
        if steps is not None and not is_number(steps):
            raise InvalidNumber(steps)
        done = self.do_round(outcomes, steps)
        self.gone += 1
        self.plan_on()
        return done

    def wake(self):
        """Brings the disk to what the journal tells, does the drop that is due, and goes on."""
        if self.awake:
            raise Undefined("asleep")
        for step in self.steps_of_waking():
            self.do(step)
        self.drop_due()
        self.awake = True

    def change(self, cluster, wishes):
        """Leads the pieces, from where they stand, to a placing that keeps these rules."""
        if not self.awake:
            raise Undefined("awake")
        if not is_wishes(wishes) or len(wishes) != len(self.copies):
            raise InvalidWishes(wishes)
        if cluster.store_count < self.cluster.store_count:
            raise Undefined("stores")
        after = fewest_placing(cluster, wishes, tuple(self.ledger.standing))
        self.cluster = cluster
        self.add_line(("change", after))
        self.begin()

    def do_round(self, outcomes, steps):
        """Does the next round, or just so many of its steps; how many were done."""
        done = 0
        for (piece, _, taker), outcome in zip(self.planned[0], outcomes):
            for step in self.steps_of(piece, taker, outcome):
                if done == steps:
                    self.awake = False
                    return done
                self.do(step)
                done += 1
        return done

    def steps_of(self, piece, taker, outcome):
        """The steps of a move with this outcome, from where the pieces stand."""
        if outcome == "failed":
            return []
        steps = [("written", piece, taker)]
        if outcome == "done":
            steps.append(("made", piece, taker))
            held = self.ledger.standing[piece] + (taker,)
            if all([store in held for store in self.ledger.force[piece]]):
                steps.extend(self.steps_of_drop(piece))
        return steps

    def steps_of_drop(self, piece):
        """The steps that leave the piece just where the placing in force has it; none if it has no further copy."""
        leaving = [store for store in self.ledger.standing[piece] if store not in self.ledger.force[piece]]
        if not leaving:
            return []
        return [("dropped", piece, None)] + [("wiped", piece, store) for store in leaving]

    def steps_of_waking(self):
        """The steps that wipe all copies that the journal does not tell."""
        steps = []
        for piece, lot in enumerate(self.copies):
            steps.extend([("wiped", piece, store) for store in lot if store not in self.ledger.standing[piece]])
        return steps

    def do(self, step):
        """Does one step."""
        word, piece, store = step
        if word == "written":
            if store not in self.copies[piece]:
                self.copies[piece].append(store)
        elif word == "wiped":
            self.copies[piece].remove(store)
        elif word == "made":
            self.add_line(("made", piece, store))
        else:
            self.add_line(("dropped", piece))

    def drop_due(self):
        """Does all drops that are due."""
        piece = self.ledger.due()
        while piece is not None:
            for step in self.steps_of_drop(piece):
                self.do(step)
            piece = self.ledger.due()

    def add_line(self, line):
        """Adds a line that is right to the journal."""
        self.lines.append(line)
        self.ledger.take(line)

    def fresh_plan(self):
        """Rounds of moves from where the pieces stand to the placing in force."""
        moves = chosen_moves(self.cluster, tuple(self.ledger.standing), self.ledger.force)
        plan = any_plan(self.cluster.rates, pairs_of(moves))
        rounds = []
        for number in range(plan_length(plan)):
            rounds.append(tuple([move for move, told in zip(moves, plan) if told == number]))
        return tuple([members for members in rounds if members])

    def plan_on(self):
        """Plans what is left anew, but keeps to the rounds that were planned where that would take more rounds.

        The moves that were planned and are not made are still such as there
        may be: a piece that lacks a copy stands at least where it stood.
        """
        kept = []
        for moves in self.planned:
            unmade = tuple([move for move in moves if move[2] not in self.ledger.standing[move[0]]])
            if unmade:
                kept.append(unmade)
        fresh = self.fresh_plan()
        self.planned = fresh if len(fresh) < len(kept) else tuple(kept)


def is_outcomes(value, many):
    """Whether the value is a tuple with so many outcomes."""
    if not isinstance(value, tuple) or len(value) != many:
        return False
    return all([outcome in OUTCOMES for outcome in value])


def resumed(cluster, wishes, journal):
    """A Run that goes on from where the journal tells that the pieces stand."""
    after = in_force(cluster, journal)
    if not is_wishes(wishes) or len(wishes) != len(after):
        raise InvalidWishes(wishes)
    if first_breach(cluster, wishes, after) is not None:
        raise Undefined("rules")
    run = Run(cluster, wishes, after)
    run.take_up(cluster, journal)
    return run
