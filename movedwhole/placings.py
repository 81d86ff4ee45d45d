"""Wishes (how many copies each piece is to have) and placings (at which stores they are)."""

from movedwhole.errors import InvalidPlacing, InvalidWishes
from movedwhole.kinds import is_lot, is_within

MOST_PIECES = 40
WISH_BOUNDS = (1, 3)


def is_wishes(value):
    """Whether the value is a tuple of integers from 1 to 3."""
    return isinstance(value, tuple) and all([is_within(wish, WISH_BOUNDS) for wish in value])


def is_placing(cluster, value, many):
    """Whether the value is a placing of so many pieces at the cluster's stores."""
    if not isinstance(value, tuple) or len(value) != many:
        return False
    return all([is_lot(lot, cluster.store_count) and len(lot) > 0 for lot in value])


def check_wishes(wishes):
    """InvalidWishes unless they are wishes."""
    if not is_wishes(wishes):
        raise InvalidWishes(wishes)


def check_placing(cluster, wishes, placing):
    """InvalidPlacing unless it is a placing of as many pieces as wished."""
    if not is_placing(cluster, placing, len(wishes)):
        raise InvalidPlacing(placing)


def first_breach(cluster, wishes, placing):
    """The first rule that the placing does not keep, as (word, number); None if it keeps all."""
    check_wishes(wishes)
    check_placing(cluster, wishes, placing)
    for piece, lot in enumerate(placing):
        if len(lot) != wishes[piece]:
            return ("count", piece)
        if len({cluster.racks[store] for store in lot}) < len(lot):
            return ("racks", piece)
    for store, room in enumerate(cluster.rooms):
        if len([held for held in placing if store in held]) > room:
            return ("room", store)
    return None


def new_copies(before, after):
    """The pairs (piece, store), rising, of the copies that after has and before has not."""
    return tuple([(piece, store) for piece, lot in enumerate(after) for store in lot if store not in before[piece]])
