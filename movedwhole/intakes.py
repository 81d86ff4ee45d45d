"""Gentle placings: their new copies come to the stores as evenly as can be."""

from movedwhole.cheapest import cheapest_filling
from movedwhole.errors import InvalidNumber, Undefined
from movedwhole.fillings import GATE, ROOM, filled
from movedwhole.kinds import is_number
from movedwhole.moves import rounded_up
from movedwhole.placings import check_placing, check_wishes, new_copies
from movedwhole.prices import are_numbers, is_paper, shown_at


def intake(rates, before, after):
    """The greatest number of new copies at a store by its rate, rounded up."""
    takers = [store for piece, store in new_copies(before, after)]
    return max([rounded_up(takers.count(store), rate) for store, rate in enumerate(rates)])


def least_intake(cluster, wishes, before):
    """The least intake of a placing that keeps the rules and has the fewest new copies."""
    return intake(cluster.rates, before, gentle_placing(cluster, wishes, before))


def gentle_placing(cluster, wishes, before):
    """Some placing that keeps the rules, with the fewest new copies and, of such, the least intake."""
    gentlest = cheapest_filling(cluster, wishes, before).placed()
    fewest = len(new_copies(before, gentlest))
    least = 0
    while least < intake(cluster.rates, before, gentlest):
        # None is below least, and the gentlest so far is the most that there is to try.
        tried = (least + intake(cluster.rates, before, gentlest)) // 2
        filling = gated_filling(cluster, wishes, before, tried)
        if filling is not None and len(new_copies(before, filling.placed())) == fewest:
            gentlest = filling.placed()
        else:
            least = tried + 1
    return gentlest


def gated_filling(cluster, wishes, before, most):
    """The Filling with the fewest new copies of those of intake at most most; None if there is no room."""
    return filled(cluster, wishes, before, [rate * most for rate in cluster.rates])


def gate_shown(cluster, wishes, before, most, paper):
    """How many new copies the paper shows that an intake of at most most needs; None if it is no gate paper."""
    check_wishes(wishes)
    check_placing(cluster, wishes, before)
    if not is_gate_paper(paper, len(wishes), cluster.store_count):
        return None
    tolls = sum([rate * most * gate for rate, gate in zip(cluster.rates, paper[2])])
    return shown_at(cluster, wishes, before, paper[:2], paper[2]) - tolls


def is_gate_paper(value, pieces, stores):
    """Whether the value is a paper of prices and gates for so many pieces and stores."""
    if not isinstance(value, tuple) or len(value) != 3:
        return False
    return is_paper(value[:2], pieces, stores) and are_numbers(value[2], stores)


def gate_paper(cluster, wishes, before, most):
    """Some gate paper that shows the least number of new copies of a placing of intake at most most."""
    check_wishes(wishes)
    check_placing(cluster, wishes, before)
    if not is_number(most):
        raise InvalidNumber(most)
    filling = gated_filling(cluster, wishes, before, most)
    if filling is None:
        raise Undefined("room")
    prices = filling.door_prices()
    stores = range(cluster.store_count)
    rents = [prices[(store, ROOM)] for store in stores]
    gates = [prices[(store, GATE)] - prices[(store, ROOM)] for store in stores]
    return (filling.piece_prices(prices), tuple(rents), tuple(gates))
