"""Pieces put on stores copy by copy, so that new copies are always as few as can be.

Where no store that a piece may go to has room, other copies are shifted: a
shift leads one copy of some piece from a store to another one, where its
racks let it. Copies come to a store by its doors: elder ones straight to its
room, new ones, where only so many of them may come, through its gate. Shifts
and gates are the links of ways over the doors; a new copy goes by a way of
the least weight, as in any flow of least cost, and so no round of shifts
ever saves a new copy.
"""

# The doors of a store are (store, ROOM) and (store, GATE).
ROOM = 0
GATE = 1

# Eight stores have no more doors.
MOST_DOORS = 16

# What a new copy weighs, where a shift weighs 1: a way has fewer shifts than
# there are doors, so shifts decide only between ways of as many new copies.
# They must: on a way of the fewest shifts no piece crosses racks twice.
NEW_COPY = 16


class Filling:
    """Lots that are filled one copy at a time, with the fewest new copies for what they hold.

    The gates tell how many new copies each store may take; with None there are no gates.
    """

    def __init__(self, cluster, before, gates):
        self.racks = cluster.racks
        self.gates = gates
        self.free = list(cluster.rooms)
        self.fresh = [[0 if store in lot else 1 for store in range(cluster.store_count)] for lot in before]
        self.lots = [[] for lot in before]

    def placed(self):
        """The placing of the copies that are put."""
        return tuple([tuple(sorted(lot)) for lot in self.lots])

    def keep(self, wishes, before):
        """Puts elder copies where they stand, as far as wishes, racks and room let them: no way is needed for these."""
        for piece, lot in enumerate(before):
            for store in lot:
                wanted = len(self.lots[piece]) < wishes[piece]
                if wanted and self.free[store] > 0 and store in self.takers(piece, None):
                    self.lots[piece].append(store)
                    self.free[store] -= 1

    def put(self, piece):
        """Puts one copy more of the piece; whether there was a way to room for it."""
        links = self.links()
        weights, ahead = ways({(store, ROOM): 0 for store, room in enumerate(self.free) if room > 0}, links)
        entries = [store for store in self.takers(piece, None) if self.door(piece, store) in weights]
        if not entries:
            return False
        store = min([(weights[self.door(piece, entry)] + NEW_COPY * self.fresh[piece][entry], entry)
                     for entry in entries])[1]
        self.lots[piece].append(store)
        door = self.door(piece, store)
        while door in ahead:
            self.shift(links[(door, ahead[door])][1], door[0], ahead[door][0])
            door = ahead[door]
        self.free[door[0]] -= 1
        return True

    def shift(self, piece, giver, taker):
        """Leads the piece's copy from one store to another one; with None there is none to lead."""
        if piece is not None:
            self.lots[piece].remove(giver)
            self.lots[piece].append(taker)

    def takers(self, piece, giver):
        """The stores that the piece's copy at giver may be shifted to; with None, those a further copy may go to."""
        held = [self.racks[store] for store in self.lots[piece] if store != giver]
        return [store for store, rack in enumerate(self.racks) if store != giver and rack not in held]

    def door(self, piece, store):
        """The door by which the piece's copy comes to the store."""
        return (store, GATE if self.gates is not None and self.fresh[piece][store] else ROOM)

    def links(self):
        """For each pair of doors that a link joins: the least weight, and a piece to shift (None at a gate)."""
        found = self.gate_links()
        for piece, lot in enumerate(self.lots):
            fresh = self.fresh[piece]
            for giver in lot:
                for taker in self.takers(piece, giver):
                    weight = NEW_COPY * (fresh[taker] - fresh[giver]) + 1
                    link = (self.door(piece, giver), self.door(piece, taker))
                    if link not in found or weight < found[link][0]:
                        found[link] = (weight, piece)
        return found

    def gate_links(self):
        """The links through gates: to the room, where one copy more may come; back, where one came that may leave."""
        found = {}
        if self.gates is None:
            return found
        came = [store for fresh, lot in zip(self.fresh, self.lots) for store in lot if fresh[store]]
        for store, most in enumerate(self.gates):
            if came.count(store) < most:
                found[((store, GATE), (store, ROOM))] = (0, None)
            if store in came:
                found[((store, ROOM), (store, GATE))] = (0, None)
        return found

    def door_prices(self):
        """For each door how many new copies more it would take to clear room for one copy that comes by it.

        Where ways lead to no free room at all, they end at some door for a
        price so high that, whatever they save, it cannot come below 0.
        """
        starts = {}
        for store, room in enumerate(self.free):
            starts[(store, ROOM)] = 0 if room > 0 else NEW_COPY * MOST_DOORS
            starts[(store, GATE)] = NEW_COPY * MOST_DOORS
        weights, _ = ways(starts, self.links())
        # A weight is its new copies times NEW_COPY and less shifts than that.
        return {door: weight // NEW_COPY for door, weight in weights.items()}

    def piece_prices(self, prices):
        """For each piece what its dearest copy costs, at these prices of doors."""
        found = []
        for piece, lot in enumerate(self.lots):
            found.append(max([prices[self.door(piece, store)] + self.fresh[piece][store] for store in lot]))
        return tuple(found)


def ways(starts, links):
    """For the doors from which links lead to one of starts: the least weight, and the next door on such a way."""
    weights = {door: starts[door] for door in starts}
    ahead = {}
    changed = True
    while changed:
        changed = False
        for (door, following), (weight, _) in links.items():
            if following in weights and (door not in weights or weights[following] + weight < weights[door]):
                weights[door] = weights[following] + weight
                ahead[door] = following
                changed = True
    return weights, ahead


def filled(cluster, wishes, before, gates=None):
    """A Filling with as many copies as wished and the fewest that before has not; None if there is no room."""
    filling = Filling(cluster, before, gates)
    filling.keep(wishes, before)
    for piece, wish in enumerate(wishes):
        while len(filling.lots[piece]) < wish:
            if not filling.put(piece):
                return None
    return filling
