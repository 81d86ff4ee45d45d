"""Plans in which no store does more than its rate in a round."""

from movedwhole.errors import Undefined
from movedwhole.halves import halved
from movedwhole.moves import check_pairs
from movedwhole.tables import table_plan


def even_plan(rates, pairs):
    """Some plan without an excess, for even rates, of no more rounds than the busiest store needs."""
    if has_odd(rates):
        raise Undefined("rates")
    half = tuple([rate // 2 for rate in rates])
    return table_plan(half, half, halved(len(rates), pairs))


def any_plan(rates, pairs):
    """Some plan without an excess, of about one and a half times the rounds that the busiest store needs, at most."""
    check_pairs(len(rates), pairs)
    if not has_odd(rates):
        return even_plan(rates, pairs)
    if is_one_way(pairs):
        return table_plan(rates, rates, pairs)
    return drawn_forward(rates, pairs, three_way_plan(rates, pairs))


def has_odd(rates):
    """Whether one of the rates is odd."""
    return any([rate & 1 for rate in rates])


def is_one_way(pairs):
    """Whether no store occurs in the first place of one pair and in the second of another."""
    givers = [giver for giver, taker in pairs]
    return not any([taker in givers for giver, taker in pairs])


def three_way_plan(rates, pairs):
    """A plan for twice the rates, each of its rounds parted into three.

    In a round for twice the rates a store gives at most as often as its rate,
    and takes as often. It has a seat for one giving and one taking each, so
    that a pair shares its seats with two others at most: of three rounds one
    is free at both.
    """
    turned = halved(len(rates), pairs)
    wide = table_plan(rates, rates, turned)
    seats = list(zip(seats_of(wide, [giver for giver, taker in turned]),
                     seats_of(wide, [taker for giver, taker in turned])))
    taken = {}
    plan = []
    for number, (giving, taking) in zip(wide, seats):
        free = [third for third in range(3) if (giving, third) not in taken and (taking, third) not in taken]
        third = free[0]
        taken[(giving, third)] = True
        taken[(taking, third)] = True
        plan.append(3 * number + third)
    return tuple(plan)


def seats_of(plan, stores):
    """For each pair its seat at its store: (round, store, how many pairs the store had before in this round)."""
    counts = {}
    seats = []
    for number, store in zip(plan, stores):
        count = counts.get((number, store), 0)
        counts[(number, store)] = count + 1
        seats.append((number, store, count))
    return seats


def drawn_forward(rates, pairs, plan):
    """The plan with each pair in the first round that lets it, those of earlier rounds first.

    A round is free for the pairs that the plan has in it, whatever comes
    before them: no plan becomes longer.
    """
    counts = {}
    drawn = {}
    for _, place in sorted([(former, place) for place, former in enumerate(plan)]):
        number = 0
        while not all([counts.get((number, store), 0) < rates[store] for store in pairs[place]]):
            number += 1
        for store in pairs[place]:
            counts[(number, store)] = counts.get((number, store), 0) + 1
        drawn[place] = number
    return tuple([drawn[place] for place in range(len(pairs))])
