"""What the tests share: values of all kinds, checks of errors and results, and searches without cleverness."""

import itertools
import random
import unittest

from movedwhole.clusters import Cluster

THREE = Cluster((0, 1, 2), (9, 9, 9), (2, 2, 2))
EIGHT = Cluster((0, 1, 2, 3, 0, 1, 2, 3), (15,) * 8, (2, 3) * 4)


def deep(value, levels):
    """The value within so many tuples and lists."""
    for level in range(levels):
        value = (value,) if level % 2 else [value]
    return value


NO_INTEGERS = (True, False, None, "", "1", "lot", (), (1,), [], [1], THREE, deep(1, 10))
NO_TUPLES = (True, False, None, 0, 1, -1, 7, "", "012", [], [1], [(0,)], [[0], [1]], THREE, deep((0,), 9))


class MovedTest(unittest.TestCase):
    """A TestCase that can look at errors and at plainness."""

    def same(self, found, expected):
        """Whether both are one object, or equal integers or texts of one kind."""
        if found is expected:
            return True
        return type(found) is type(expected) and type(found) in (int, str) and found == expected

    def assert_raised(self, kind, attributes, call, *arguments, **named):
        """That the call raises just this kind of error, with these attributes."""
        with self.assertRaises(kind) as caught:
            call(*arguments, **named)
        self.assertIs(type(caught.exception), kind)
        for name, expected in attributes.items():
            found = getattr(caught.exception, name)
            self.assertTrue(self.same(found, expected), (name, found, expected))

    def assert_plain(self, value):
        """That the value is made of plain tuples, integers, texts and None alone."""
        self.assertIn(type(value), (tuple, int, str, type(None)))
        if isinstance(value, tuple):
            for member in value:
                self.assert_plain(member)


def all_lots(stores):
    """All lots of so many stores, the empty one too."""
    return [lot for size in range(stores + 1) for lot in itertools.combinations(range(stores), size)]


def all_good_placings(cluster, wishes):
    """All placings that keep the rules, by the words of the rules alone."""
    choices = []
    for wish in wishes:
        lots = itertools.combinations(range(cluster.store_count), wish)
        choices.append([lot for lot in lots if len({cluster.racks[store] for store in lot}) == wish])
    for placing in itertools.product(*choices):
        copies = [store for lot in placing for store in lot]
        if all(copies.count(store) <= room for store, room in enumerate(cluster.rooms)):
            yield placing


def count_new(before, after):
    """How many copies after has that before has not."""
    return sum(len(set(lot) - set(elder)) for elder, lot in zip(before, after))


def small_worlds(seed, many):
    """Worlds (cluster, wishes, before) that can be searched whole, often with little room or few racks."""
    chance = random.Random(seed)
    for _ in range(many):
        stores = chance.randint(1, 5)
        racks = [chance.randrange(chance.randint(1, stores)) for store in range(stores)]
        most = min(3, len(set(racks)) + (chance.random() < 0.1))
        wishes = tuple(chance.randint(1, most) for piece in range(chance.randint(0, 4)))
        rooms = [chance.randint(0, 1 + 2 * sum(wishes) // stores) for store in range(stores)]
        lots = all_lots(stores)[1:]
        before = tuple(chance.choice(lots) for wish in wishes)
        yield Cluster(racks, rooms, [1] * stores), wishes, before


def large_worlds(seed, many):
    """Worlds (cluster, wishes, before) of forty pieces at eight stores, with hardly more room than copies."""
    chance = random.Random(seed)
    for _ in range(many):
        racks = [0, 1, 2, 3] + [chance.randrange(5) for store in range(4)]
        chance.shuffle(racks)
        wishes = tuple(chance.choice((1, 2, 3)) for piece in range(40))
        rooms = [0] * 8
        for _ in range(sum(wishes) + chance.choice((0, 1, 5))):
            rooms[chance.randrange(8)] += 1
        before = tuple(tuple(sorted(chance.sample(range(8), chance.choice((1, 2, 3, 8))))) for wish in wishes)
        yield Cluster(racks, rooms, [1] * 8), wishes, before


def wrong_pairs(stores):
    """Values that are no tuples of pairs of unlike stores below stores, two at least."""
    ends = [stores, -1, stores + 100] + list(NO_INTEGERS)
    members = [(0,), (0, 1, 0), (), [0, 1], (1, 1), (0, 0), 0, "01", None, THREE, ((0, 1),), deep((0, 1), 8)]
    members += [(0, end) for end in ends] + [(end, 1) for end in ends]
    wrongs = list(NO_TUPLES) + [(0, 1), [(0, 1)], deep((0, 1), 10)]
    for member in members:
        wrongs += [(member,), (member, (0, 1)), ((0, 1), (1, 0), member)]
    return wrongs


def some_pairs(chance, stores, many):
    """So many pairs of stores, by chance; often few unlike ones that occur often."""
    if stores < 2:
        return ()
    kinds = [tuple(chance.sample(range(stores), 2)) for _ in range(chance.choice((1, 2, 3, 5, 99)))]
    return tuple(chance.choice(kinds) for _ in range(many))


def some_rates(chance, stores, rates=(1, 1, 1, 2, 3, 4, 8)):
    """A rate for each store, by chance."""
    return tuple(chance.choice(rates) for store in range(stores))


def small_changes(seed, many, rates=(1, 1, 2, 3)):
    """Changes (cluster, before, after) of which all lists of moves can be tried."""
    chance = random.Random(seed)
    for _ in range(many):
        stores = chance.randint(1, 5)
        lots = all_lots(stores)[1:]
        few = [lot for lot in lots if len(lot) <= chance.choice((1, 2, 5))]
        pieces = range(chance.randint(0, 4))
        before = tuple(chance.choice(few) for piece in pieces)
        after = tuple(chance.choice([lot for lot in lots if len(lot) <= 3]) for piece in pieces)
        yield Cluster((0,) * stores, (9,) * stores, some_rates(chance, stores, rates)), before, after


def large_changes(seed, many, rates=(1, 1, 2, 3, 8)):
    """Changes (cluster, before, after) of eight stores and forty pieces, each with three new copies."""
    chance = random.Random(seed)
    for _ in range(many):
        common = chance.choice((2, 3, 5))
        before, after = [], []
        for piece in range(40):
            elder = chance.sample(range(common), chance.choice((1, 1, 2)))
            fresh = chance.sample([store for store in range(8) if store not in elder], 3)
            before.append(tuple(sorted(elder)))
            after.append(tuple(sorted(fresh)))
        yield Cluster((0,) * 8, (40,) * 8, some_rates(chance, 8, rates)), tuple(before), tuple(after)


def all_moves(before, after):
    """All lists of moves of the change, by the words alone."""
    copies = [(piece, store) for piece, lot in enumerate(after) for store in lot if store not in before[piece]]
    for givers in itertools.product(*[before[piece] for piece, store in copies]):
        yield tuple((piece, giver, store) for (piece, store), giver in zip(copies, givers))


def load_of(store, pairs):
    """In how many pairs the store occurs."""
    return sum(store in pair for pair in pairs)


def ceiling(total, share):
    """The number total by the share, rounded up, by counting."""
    rounds = 0
    while rounds * share < total:
        rounds += 1
    return rounds


def busiest_of(rates, pairs):
    """What busiest is, by its words."""
    return max(ceiling(load_of(store, pairs), rate) for store, rate in enumerate(rates))


def has_excess(rates, pairs, plan):
    """Whether in some round some store has more pairs than its rate."""
    for number in sorted(set(plan)):
        there = [pair for pair, pair_number in zip(pairs, plan) if pair_number == number]
        if any(load_of(store, there) > rate for store, rate in enumerate(rates)):
            return True
    return False
