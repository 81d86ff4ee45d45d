"""Prices that show how many new copies no placing can do without."""

from movedwhole.cheapest import cheapest_filling
from movedwhole.fillings import ROOM
from movedwhole.kinds import is_integer, is_number
from movedwhole.placings import check_placing, check_wishes


def shown_by(cluster, wishes, before, paper):
    """How many new copies the paper shows to be needed; None if it is no paper."""
    check_wishes(wishes)
    check_placing(cluster, wishes, before)
    if not is_paper(paper, len(wishes), cluster.store_count):
        return None
    return shown_at(cluster, wishes, before, paper, (0,) * cluster.store_count)


def is_paper(value, pieces, stores):
    """Whether the value is a paper of prices for so many pieces and stores."""
    if not isinstance(value, tuple) or len(value) != 2:
        return False
    prices, rents = value
    if not isinstance(prices, tuple) or len(prices) != pieces:
        return False
    return all([is_integer(price) for price in prices]) and are_numbers(rents, stores)


def are_numbers(value, many):
    """Whether the value is a tuple of so many numbers."""
    return isinstance(value, tuple) and len(value) == many and all([is_number(number) for number in value])


def shown_at(cluster, wishes, before, paper, gates):
    """What wishes are worth at the paper's prices, less what pieces gain and less the rents of all rooms."""
    prices, rents = paper
    worth = sum([wish * price for wish, price in zip(wishes, prices)])
    gains = sum([gain_of(cluster, lot, price, rents, gates) for lot, price in zip(before, prices)])
    return worth - gains - sum([room * rent for room, rent in zip(cluster.rooms, rents)])


def gain_of(cluster, lot, price, rents, gates):
    """What a piece of this price that stands at the lot gains on all racks at most, at these prices of stores."""
    gains = {rack: 0 for rack in cluster.racks}
    for store, rack in enumerate(cluster.racks):
        gain = price - rents[store] - (0 if store in lot else 1 + gates[store])
        gains[rack] = max(gains[rack], gain)
    return sum(gains.values())


def price_paper(cluster, wishes, before):
    """Some paper that shows just as many new copies as fewest_placing has."""
    filling = cheapest_filling(cluster, wishes, before)
    prices = filling.door_prices()
    rents = [prices[(store, ROOM)] for store in range(cluster.store_count)]
    return (filling.piece_prices(prices), tuple(rents))
