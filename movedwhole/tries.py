"""Fewest rounds of a few pairs, found by trying, and a bound from the pairs within a lot of stores."""

from movedwhole.errors import InvalidLot, TooMany
from movedwhole.kinds import is_lot
from movedwhole.moves import busiest, check_pairs, rounded_up
from movedwhole.plans import first_excess, plan_length

MOST_TRIED = 8


def fewest_rounds(rates, pairs):
    """The least number of rounds of a plan without an excess."""
    check_pairs(len(rates), pairs)
    if len(pairs) > MOST_TRIED:
        raise TooMany("pairs")
    most = busiest(rates, pairs)
    while not can_go_on(rates, pairs, most, ()):
        most += 1
    return most


def can_go_on(rates, pairs, most, plan):
    """Whether the plan of the first pairs can go on to all of them, without an excess in at most so many rounds."""
    if first_excess(rates, pairs[:len(plan)], plan) is not None:
        return False
    if len(plan) == len(pairs):
        return True
    # All rounds that have no pair yet are alike: only the first of them is tried.
    for number in range(min(most, plan_length(plan) + 1)):
        if can_go_on(rates, pairs, most, plan + (number,)):
            return True
    return False


def inner_bound(rates, pairs, lot):
    """How many rounds the pairs within the lot need: a round has no more of them than half of the lot's rates."""
    check_pairs(len(rates), pairs)
    if not is_lot(lot, len(rates)) or sum([rates[store] for store in lot]) < 2:
        raise InvalidLot(lot)
    inner = [giver for giver, taker in pairs if giver in lot and taker in lot]
    return rounded_up(len(inner), sum([rates[store] for store in lot]) // 2)
