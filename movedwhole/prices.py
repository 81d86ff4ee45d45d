"""Prices that show how many new copies no placing can do without."""

from movedwhole.cheapest import cheapest_filling
from movedwhole.clusters import MOST_STORES
from movedwhole.fillings import NEW_COPY, ways
from movedwhole.kinds import is_integer, is_number
from movedwhole.placings import check_placing, check_wishes


def shown_by(cluster, wishes, before, paper):
    """How many new copies the paper shows to be needed; None if it is no paper."""
    check_wishes(wishes)
    check_placing(cluster, wishes, before)
    if not is_paper(paper, len(wishes), cluster.store_count):
        return None
    prices, rents = paper
    worth = sum([wish * price for wish, price in zip(wishes, prices)])
    gains = sum([gain_of(cluster, lot, price, rents) for lot, price in zip(before, prices)])
    return worth - gains - sum([room * rent for room, rent in zip(cluster.rooms, rents)])


def is_paper(value, pieces, stores):
    """Whether the value is a paper of prices for so many pieces and stores."""
    if not isinstance(value, tuple) or len(value) != 2:
        return False
    prices, rents = value
    if not isinstance(prices, tuple) or not isinstance(rents, tuple):
        return False
    if len(prices) != pieces or len(rents) != stores:
        return False
    return all([is_integer(price) for price in prices]) and all([is_number(rent) for rent in rents])


def gain_of(cluster, lot, price, rents):
    """What a piece of this price that stands at the lot gains on all racks at most, at these prices of stores."""
    gains = {rack: 0 for rack in cluster.racks}
    for store, rack in enumerate(cluster.racks):
        gain = price - rents[store] - (0 if store in lot else 1)
        gains[rack] = max(gains[rack], gain)
    return sum(gains.values())


def price_paper(cluster, wishes, before):
    """Some paper that shows just as many new copies as fewest_placing has.

    A store's price is how many new copies more it would take to clear room
    for one copy there. Where shifts lead to no free room at all, they end at
    a full store for a price so high that no way can bring it below 0.
    """
    filling = cheapest_filling(cluster, wishes, before)
    starts = {store: 0 if room > 0 else NEW_COPY * MOST_STORES for store, room in enumerate(filling.free)}
    weights, _ = ways(starts, filling.shifts())
    # A weight is its new copies times NEW_COPY and less shifts than that.
    rents = [weights[store] // NEW_COPY for store in range(cluster.store_count)]
    prices = []
    for lot, fresh in zip(filling.lots, filling.fresh):
        prices.append(max([rents[store] + fresh[store] for store in lot]))
    return (tuple(prices), tuple(rents))
