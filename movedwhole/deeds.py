"""Deeds: what changes a world (cluster, wishes, placing)."""

from movedwhole.clusters import MOST_STORES, RACK_BOUNDS, RATE_BOUNDS, ROOM_BOUNDS, replaced
from movedwhole.kinds import is_lot, is_within
from movedwhole.placings import MOST_PIECES, WISH_BOUNDS

# How many numbers stand behind the word of a deed that tells numbers alone.
NUMBERS = {"store": 3, "room": 2, "rate": 2, "wish": 2, "settle": 0}


def fits(world, value):
    """Whether the value is a deed that can be done in the world; of settle, whether there is a goal is not asked."""
    if not isinstance(value, tuple) or not value or not isinstance(value[0], str):
        return False
    if value[0] == "piece":
        return len(value) == 3 and fits_piece(world, value[1], value[2])
    if NUMBERS.get(value[0]) != len(value) - 1:
        return False
    if value[0] == "store" and world[0].store_count >= MOST_STORES:
        return False
    return all([is_within(number, bounds) for number, bounds in zip(value[1:], bounds_of(world, value[0]))])


def fits_piece(world, wish, lot):
    """Whether a piece more, of this wish at this lot, can be in the world."""
    cluster, wishes, _ = world
    return (len(wishes) < MOST_PIECES and is_within(wish, WISH_BOUNDS)
            and is_lot(lot, cluster.store_count) and len(lot) > 0)


def bounds_of(world, word):
    """The bounds of the numbers behind the word of a deed."""
    cluster, wishes, _ = world
    stores = (0, cluster.store_count - 1)
    if word == "store":
        return (RACK_BOUNDS, ROOM_BOUNDS, RATE_BOUNDS)
    if word == "room":
        return (stores, ROOM_BOUNDS)
    if word == "rate":
        return (stores, RATE_BOUNDS)
    if word == "wish":
        return ((0, len(wishes) - 1), WISH_BOUNDS)
    return ()


def world_behind(world, goal, deed):
    """The world behind a deed that fits; settle makes the goal the placing."""
    cluster, wishes, placing = world
    word = deed[0]
    if word == "settle":
        return (cluster, wishes, goal)
    if word == "wish":
        return (cluster, replaced(wishes, deed[1], deed[2]), placing)
    if word == "piece":
        return (cluster, wishes + (deed[1],), placing + (deed[2],))
    return (cluster_behind(cluster, deed), wishes, placing)


def cluster_behind(cluster, deed):
    """The cluster behind a deed that changes it, with the errors of this."""
    if deed[0] == "store":
        return cluster.with_store(deed[1], deed[2], deed[3])
    if deed[0] == "room":
        return cluster.with_room(deed[1], deed[2])
    if deed[0] == "rack":
        return cluster.with_rack(deed[1], deed[2])
    return cluster.with_rate(deed[1], deed[2])
