"""Plans: for each pair the round in which it is done."""

from movedwhole.errors import InvalidPlan
from movedwhole.kinds import is_number
from movedwhole.moves import check_pairs


def first_excess(rates, pairs, plan):
    """The first (round, store) with more pairs than the store's rate; None if there is none."""
    check_pairs(len(rates), pairs)
    check_plan(pairs, plan)
    counts = {}
    for number, pair in zip(plan, pairs):
        for store in pair:
            counts[(number, store)] = counts.get((number, store), 0) + 1
    return min([(number, store) for (number, store), count in counts.items() if count > rates[store]], default=None)


def check_plan(pairs, plan):
    """InvalidPlan unless it is a tuple of as many numbers as there are pairs."""
    if not isinstance(plan, tuple) or len(plan) != len(pairs) or not all([is_number(number) for number in plan]):
        raise InvalidPlan(plan)


def plan_length(plan):
    """The number of the plan's rounds, empty ones included."""
    return max(plan, default=-1) + 1
