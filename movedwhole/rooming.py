"""Room: which lots of stores lack it, and a placing where none does."""

from itertools import combinations

from movedwhole.errors import InvalidLot, Undefined
from movedwhole.fillings import filled
from movedwhole.kinds import is_lot
from movedwhole.placings import check_wishes


def lacks_room(cluster, wishes, lot):
    """Whether the copies that must come to the lot are more than its stores have room for."""
    check_wishes(wishes)
    if not is_lot(lot, cluster.store_count):
        raise InvalidLot(lot)
    return falls_short(cluster, wishes, lot)


def lot_lacking(cluster, wishes):
    """Some lot that lacks room, or None if there is none."""
    check_wishes(wishes)
    for size in range(cluster.store_count + 1):
        for lot in combinations(range(cluster.store_count), size):
            if falls_short(cluster, wishes, lot):
                return lot
    return None


def some_placing(cluster, wishes):
    """Some placing that keeps the rules."""
    check_wishes(wishes)
    filling = filled(cluster, wishes, [() for wish in wishes])
    if filling is None:
        raise Undefined("room")
    return filling.placed()


def falls_short(cluster, wishes, lot):
    """Whether the lot lacks room: as each piece can have but one copy on a rack, the rest comes to the lot."""
    outside = len({rack for store, rack in enumerate(cluster.racks) if store not in lot})
    coming = sum([max(0, wish - outside) for wish in wishes])
    return coming > sum([cluster.rooms[store] for store in lot])
