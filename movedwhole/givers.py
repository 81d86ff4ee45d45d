"""Givers chosen for new copies, so that the busiest store has as little to do as can be."""

from movedwhole.moves import rounded_up


class Giving:
    """New copies that get their givers one by one.

    The limit is what the busiest store may have, by its rate. Where all stores
    of a copy's choice have their fill, other copies change their givers; only
    where these stores have no others to change to, the limit is raised. The
    lot is that of the stores for which the limit had to become what it is:
    whatever is chosen, all that they have to do stays with them.
    """

    def __init__(self, rates, takers, choices):
        self.rates = rates
        self.choices = choices
        self.givers = [None for taker in takers]
        self.busy = [takers.count(store) for store in range(len(rates))]
        needed = [rounded_up(many, rate) for many, rate in zip(self.busy, rates)]
        self.limit = max(needed)
        self.lot = (needed.index(self.limit),)

    def choose(self, copy):
        """Chooses a giver for the copy, and other ones for other copies where that helps."""
        heirs, free = self.search(copy)
        while free is None:
            self.limit += 1
            self.lot = tuple(sorted(heirs))
            heirs, free = self.search(copy)
        self.busy[free] += 1
        store = free
        while store is not None:
            heir = heirs[store]
            former = self.givers[heir]
            self.givers[heir] = store
            store = former

    def search(self, copy):
        """The copy that would change to each store that is come to, and the store of these that may still give."""
        heirs = {}
        seekers = [copy]
        while seekers:
            heir = seekers.pop()
            for store in self.choices[heir]:
                if store in heirs:
                    continue
                heirs[store] = heir
                if self.busy[store] < self.limit * self.rates[store]:
                    return heirs, store
                seekers.extend([other for other, giver in enumerate(self.givers) if giver == store])
        return heirs, None


def given(rates, takers, choices):
    """A Giving of copies at these takers, each with a giver of its choice."""
    giving = Giving(rates, takers, choices)
    for copy in range(len(takers)):
        giving.choose(copy)
    return giving
