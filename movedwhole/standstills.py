"""Standstills: moves are led round stores that take part in none."""

from movedwhole.errors import InvalidLot
from movedwhole.kinds import is_lot
from movedwhole.placings import new_copies
from movedwhole.sources import moves_from, sourced, value_of


def waiting(cluster, before, after, still):
    """The new copies (piece, store) that cannot come while the stores of the lot stand still."""
    going = copies_going(before, after, givers_left(cluster, before, still), still)
    return tuple([copy for copy in new_copies(before, after) if copy not in going])


def moves_without(cluster, before, after, still):
    """Some moves for all other new copies, without the still stores: no other ones have a less busiest."""
    left = givers_left(cluster, before, still)
    return moves_from(cluster, left, copies_going(before, after, left, still))


def least_without(cluster, before, after, still):
    """What busiest is for the pairs of moves_without."""
    left = givers_left(cluster, before, still)
    return sourced(cluster, left, copies_going(before, after, left, still)).limit


def value_without(cluster, before, after, still, lot):
    """How many rounds the lot needs for those other new copies that come to it or can be taken of it alone."""
    left = givers_left(cluster, before, still)
    if not is_lot(lot, cluster.store_count) or not lot or any([store in still for store in lot]):
        raise InvalidLot(lot)
    return value_of(cluster, left, copies_going(before, after, left, still), lot)


def givers_left(cluster, before, still):
    """For each piece its elder stores that do not stand still; InvalidLot unless still is a lot."""
    if not is_lot(still, cluster.store_count):
        raise InvalidLot(still)
    return [tuple([store for store in lot if store not in still]) for lot in before]


def copies_going(before, after, left, still):
    """The new copies that need not wait: neither for their stores nor for all their givers."""
    return [(piece, store) for piece, store in new_copies(before, after) if store not in still and left[piece]]
