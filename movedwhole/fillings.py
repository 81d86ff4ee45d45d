"""Pieces put on stores copy by copy, so that new copies are always as few as can be.

Where no store that a piece may go to has room, other copies are shifted: a
shift leads one copy of some piece from a store to another one, where its
racks let it. Shifts are the steps of ways over the stores; a new copy goes
by a way of the least weight, as in any flow of least cost, and so no round
of shifts ever saves a new copy.
"""

# What a new copy weighs, where a shift weighs 1: a way has fewer shifts than
# there are stores, so shifts decide only between ways of as many new copies.
# They must: on a way of the fewest shifts no piece crosses racks twice.
NEW_COPY = 16


class Filling:
    """Lots that are filled one copy at a time, with the fewest new copies for what they hold."""

    def __init__(self, cluster, before):
        self.racks = cluster.racks
        self.free = list(cluster.rooms)
        self.fresh = [[0 if store in lot else 1 for store in range(cluster.store_count)] for lot in before]
        self.lots = [[] for lot in before]

    def placing(self):
        """The placing of the copies that are put."""
        return tuple([tuple(sorted(lot)) for lot in self.lots])

    def keep(self, wishes, before):
        """Puts elder copies where they stand, as far as wishes, racks and room let them: no way is needed for these."""
        for piece, lot in enumerate(before):
            for store in lot:
                wanted = len(self.lots[piece]) < wishes[piece]
                if wanted and self.free[store] > 0 and store in self.takers(piece, None):
                    self.lots[piece].append(store)
                    self.free[store] -= 1

    def put(self, piece):
        """Puts one copy more of the piece; whether there was a way to room for it."""
        shifts = self.shifts()
        weights, ahead = ways({store: 0 for store, room in enumerate(self.free) if room > 0}, shifts)
        entries = [store for store in self.takers(piece, None) if store in weights]
        if not entries:
            return False
        store = min([(weights[entry] + NEW_COPY * self.fresh[piece][entry], entry) for entry in entries])[1]
        self.lots[piece].append(store)
        while store in ahead:
            taker = ahead[store]
            shifted = shifts[(store, taker)][1]
            self.lots[shifted].remove(store)
            self.lots[shifted].append(taker)
            store = taker
        self.free[store] -= 1
        return True

    def takers(self, piece, giver):
        """The stores that the piece's copy at giver may be shifted to; with None, those a further copy may go to."""
        held = [self.racks[store] for store in self.lots[piece] if store != giver]
        return [store for store, rack in enumerate(self.racks) if store != giver and rack not in held]

    def shifts(self):
        """For each pair of stores between which a copy may be shifted: the least weight, and a piece of it."""
        found = {}
        for piece, lot in enumerate(self.lots):
            fresh = self.fresh[piece]
            for giver in lot:
                for taker in self.takers(piece, giver):
                    weight = NEW_COPY * (fresh[taker] - fresh[giver]) + 1
                    if (giver, taker) not in found or weight < found[(giver, taker)][0]:
                        found[(giver, taker)] = (weight, piece)
        return found


def ways(starts, shifts):
    """For the stores from which shifts lead to one of starts: the least weight, and the next store on such a way."""
    weights = {store: starts[store] for store in starts}
    ahead = {}
    changed = True
    while changed:
        changed = False
        for (giver, taker), (weight, _) in shifts.items():
            if taker in weights and (giver not in weights or weights[taker] + weight < weights[giver]):
                weights[giver] = weights[taker] + weight
                ahead[giver] = taker
                changed = True
    return weights, ahead


def filled(cluster, wishes, before):
    """A Filling with as many copies as wished and the fewest that before has not; None if there is no room."""
    filling = Filling(cluster, before)
    filling.keep(wishes, before)
    for piece, wish in enumerate(wishes):
        while len(filling.lots[piece]) < wish:
            if not filling.put(piece):
                return None
    return filling
