"""Where the new copies of a change are taken from, so that its busiest store has as little to do as can be."""

from movedwhole.errors import InvalidLot, Undefined
from movedwhole.givers import given
from movedwhole.kinds import is_lot
from movedwhole.moves import rounded_up
from movedwhole.placings import new_copies


def least_busiest(cluster, before, after):
    """What busiest is for the pairs of a list of moves of this change, at the least."""
    return sourced(cluster, before, new_copies(before, after)).limit


def chosen_moves(cluster, before, after):
    """Some list of moves of this change with no greater busiest than least_busiest."""
    return moves_from(cluster, before, new_copies(before, after))


def lot_value_of(cluster, before, after, lot):
    """How many rounds the lot needs for the new copies that come to it or can be taken of it alone."""
    if not is_lot(lot, cluster.store_count) or not lot:
        raise InvalidLot(lot)
    return value_of(cluster, before, new_copies(before, after), lot)


def busy_lot(cluster, before, after):
    """Some lot whose value is least_busiest."""
    copies = new_copies(before, after)
    if not copies:
        raise Undefined("lot")
    return sourced(cluster, before, copies).lot


def sourced(cluster, elders, copies):
    """The Giving of these new copies by the elder stores of their pieces."""
    takers = [store for piece, store in copies]
    return given(cluster.rates, takers, [elders[piece] for piece, store in copies])


def moves_from(cluster, elders, copies):
    """The moves of these new copies from elder stores of their pieces that keep the busiest least."""
    giving = sourced(cluster, elders, copies)
    return tuple([(piece, giver, taker) for (piece, taker), giver in zip(copies, giving.givers)])


def value_of(cluster, elders, copies, lot):
    """How many rounds the lot needs for those of the copies that come to it or whose elder stores all lie in it."""
    coming = [piece for piece, store in copies if store in lot]
    going = [piece for piece, store in copies if all([elder in lot for elder in elders[piece]])]
    return rounded_up(len(coming) + len(going), sum([cluster.rates[store] for store in lot]))
