"""Clusters: stores, each with its rack, its room and its rate."""

from movedwhole.errors import InvalidCluster, InvalidNumber, TooMany
from movedwhole.kinds import is_within

MOST_STORES = 8
RACK_BOUNDS = (0, 99)
ROOM_BOUNDS = (0, 99)
RATE_BOUNDS = (1, 8)


class Cluster:
    """Stores numbered from 0; a changed cluster is a new one."""

    def __init__(self, racks, rooms, rates):
        check_part("racks", racks, (1, MOST_STORES), RACK_BOUNDS)
        count = len(racks)
        check_part("rooms", rooms, (count, count), ROOM_BOUNDS)
        check_part("rates", rates, (count, count), RATE_BOUNDS)
        self.racks = tuple(racks)
        self.rooms = tuple(rooms)
        self.rates = tuple(rates)
        self.store_count = count

    def __eq__(self, other):
        return (isinstance(other, Cluster) and self.racks == other.racks and self.rooms == other.rooms
                and self.rates == other.rates)

    def with_store(self, rack, room, rate):
        """This cluster and one store more, behind the others."""
        if self.store_count >= MOST_STORES:
            raise TooMany("stores")
        check_number(rack, RACK_BOUNDS)
        check_number(room, ROOM_BOUNDS)
        check_number(rate, RATE_BOUNDS)
        return Cluster(self.racks + (rack,), self.rooms + (room,), self.rates + (rate,))

    def with_room(self, store, room):
        """This cluster with another room at the store."""
        check_number(store, (0, self.store_count - 1))
        check_number(room, ROOM_BOUNDS)
        return Cluster(self.racks, replaced(self.rooms, store, room), self.rates)

    def with_rack(self, store, rack):
        """This cluster with the store on another rack."""
        check_number(store, (0, self.store_count - 1))
        check_number(rack, RACK_BOUNDS)
        return Cluster(replaced(self.racks, store, rack), self.rooms, self.rates)

    def with_rate(self, store, rate):
        """This cluster with another rate of the store."""
        check_number(store, (0, self.store_count - 1))
        check_number(rate, RATE_BOUNDS)
        return Cluster(self.racks, self.rooms, replaced(self.rates, store, rate))


def check_part(part, members, count_bounds, bounds):
    """InvalidCluster unless members is a sequence of as many integers as told, each within its bounds."""
    if not isinstance(members, (list, tuple)) or not is_within(len(members), count_bounds):
        raise InvalidCluster(part, 0)
    for place, member in enumerate(members):
        if not is_within(member, bounds):
            raise InvalidCluster(part, place)


def check_number(value, bounds):
    """InvalidNumber unless the value is an integer within the bounds."""
    if not is_within(value, bounds):
        raise InvalidNumber(value)


def replaced(members, place, member):
    """The tuple members with another member at the place."""
    return members[:place] + (member,) + members[place + 1:]
