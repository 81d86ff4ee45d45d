"""What the tests share: values of all kinds, checks of errors and results, and searches without cleverness."""

import itertools
import random
import re
import unittest

from movedwhole.clusters import Cluster

THREE = Cluster((0, 1, 2), (9, 9, 9), (2, 2, 2))
EIGHT = Cluster((0, 1, 2, 3, 0, 1, 2, 3), (15,) * 8, (2, 3) * 4)
TOLD_NUMBER = "(?:[0-9]|[1-9][0-9])"
WORLD_HEAD = re.compile("cluster ([1-8]) ([0-9]|[123][0-9]|40)")
WORLD_STORE = re.compile(f"store {TOLD_NUMBER} {TOLD_NUMBER} [1-8]")
WORLD_PIECE = re.compile("piece [123] ([0-7](?:,[0-7])*)")


def deep(value, levels):
    """The value within so many tuples and lists."""
    for level in range(levels):
        value = (value,) if level % 2 else [value]
    return value


NO_INTEGERS = (True, False, None, "", "1", "lot", (), (1,), [], [1], THREE, deep(1, 10))
NO_TUPLES = (True, False, None, 0, 1, -1, 7, "", "012", [], [1], [(0,)], [[0], [1]], THREE, deep((0,), 9))


class MovedTest(unittest.TestCase):
    """A TestCase that can look at errors and at plainness."""

    def same(self, found, expected):
        """Whether both are one object, or equal integers or texts of one kind."""
        if found is expected:
            return True
        return type(found) is type(expected) and type(found) in (int, str) and found == expected

    def assert_raised(self, kind, attributes, call, *arguments, **named):
        """That the call raises just this kind of error, with these attributes."""
        with self.assertRaises(kind) as caught:
            call(*arguments, **named)
        self.assertIs(type(caught.exception), kind)
        for name, expected in attributes.items():
            found = getattr(caught.exception, name)
            self.assertTrue(self.same(found, expected), (name, found, expected))

    def assert_plain(self, value):
        """That the value is made of plain tuples, integers, texts and None alone."""
        self.assertIn(type(value), (tuple, int, str, type(None)))
        if isinstance(value, tuple):
            for member in value:
                self.assert_plain(member)


def all_lots(stores):
    """All lots of so many stores, the empty one too."""
    return [lot for size in range(stores + 1) for lot in itertools.combinations(range(stores), size)]


def all_good_placings(cluster, wishes):
    """All placings that keep the rules, by the words of the rules alone."""
    choices = []
    for wish in wishes:
        lots = itertools.combinations(range(cluster.store_count), wish)
        choices.append([lot for lot in lots if len({cluster.racks[store] for store in lot}) == wish])
    for placing in itertools.product(*choices):
        copies = [store for lot in placing for store in lot]
        if all(copies.count(store) <= room for store, room in enumerate(cluster.rooms)):
            yield placing


def count_new(before, after):
    """How many copies after has that before has not."""
    return sum(len(set(lot) - set(elder)) for elder, lot in zip(before, after))


def small_worlds(seed, many):
    """Worlds (cluster, wishes, before) that can be searched whole, often with little room or few racks."""
    chance = random.Random(seed)
    for _ in range(many):
        stores = chance.randint(1, 5)
        racks = [chance.randrange(chance.randint(1, stores)) for store in range(stores)]
        most = min(3, len(set(racks)) + (chance.random() < 0.1))
        wishes = tuple(chance.randint(1, most) for piece in range(chance.randint(0, 4)))
        rooms = [chance.randint(0, 1 + 2 * sum(wishes) // stores) for store in range(stores)]
        lots = all_lots(stores)[1:]
        before = tuple(chance.choice(lots) for wish in wishes)
        yield Cluster(racks, rooms, [1] * stores), wishes, before


def large_worlds(seed, many):
    """Worlds (cluster, wishes, before) of forty pieces at eight stores, with hardly more room than copies."""
    chance = random.Random(seed)
    for _ in range(many):
        racks = [0, 1, 2, 3] + [chance.randrange(5) for store in range(4)]
        chance.shuffle(racks)
        wishes = tuple(chance.choice((1, 2, 3)) for piece in range(40))
        rooms = [0] * 8
        for _ in range(sum(wishes) + chance.choice((0, 1, 5))):
            rooms[chance.randrange(8)] += 1
        before = tuple(tuple(sorted(chance.sample(range(8), chance.choice((1, 2, 3, 8))))) for wish in wishes)
        yield Cluster(racks, rooms, [1] * 8), wishes, before


def wrong_pairs(stores):
    """Values that are no tuples of pairs of unlike stores below stores, two at least."""
    ends = [stores, -1, stores + 100] + list(NO_INTEGERS)
    members = [(0,), (0, 1, 0), (), [0, 1], (1, 1), (0, 0), 0, "01", None, THREE, ((0, 1),), deep((0, 1), 8)]
    members += [(0, end) for end in ends] + [(end, 1) for end in ends]
    wrongs = list(NO_TUPLES) + [(0, 1), [(0, 1)], deep((0, 1), 10)]
    for member in members:
        wrongs += [(member,), (member, (0, 1)), ((0, 1), (1, 0), member)]
    return wrongs


def some_pairs(chance, stores, many):
    """So many pairs of stores, by chance; often few unlike ones that occur often."""
    if stores < 2:
        return ()
    kinds = [tuple(chance.sample(range(stores), 2)) for _ in range(chance.choice((1, 2, 3, 5, 99)))]
    return tuple(chance.choice(kinds) for _ in range(many))


def some_rates(chance, stores, rates=(1, 1, 1, 2, 3, 4, 8)):
    """A rate for each store, by chance."""
    return tuple(chance.choice(rates) for store in range(stores))


def small_changes(seed, many, rates=(1, 1, 2, 3)):
    """Changes (cluster, before, after) of which all lists of moves can be tried."""
    chance = random.Random(seed)
    for _ in range(many):
        stores = chance.randint(1, 5)
        lots = all_lots(stores)[1:]
        few = [lot for lot in lots if len(lot) <= chance.choice((1, 2, 5))]
        pieces = range(chance.randint(0, 4))
        before = tuple(chance.choice(few) for piece in pieces)
        after = tuple(chance.choice([lot for lot in lots if len(lot) <= 3]) for piece in pieces)
        yield Cluster((0,) * stores, (9,) * stores, some_rates(chance, stores, rates)), before, after


def large_changes(seed, many, rates=(1, 1, 2, 3, 8)):
    """Changes (cluster, before, after) of eight stores and forty pieces, each with three new copies."""
    chance = random.Random(seed)
    for _ in range(many):
        common = chance.choice((2, 3, 5))
        before, after = [], []
        for piece in range(40):
            elder = chance.sample(range(common), chance.choice((1, 1, 2)))
            fresh = chance.sample([store for store in range(8) if store not in elder], 3)
            before.append(tuple(sorted(elder)))
            after.append(tuple(sorted(fresh)))
        yield Cluster((0,) * 8, (40,) * 8, some_rates(chance, 8, rates)), tuple(before), tuple(after)


def all_moves(before, after):
    """All lists of moves of the change, by the words alone."""
    copies = [(piece, store) for piece, lot in enumerate(after) for store in lot if store not in before[piece]]
    for givers in itertools.product(*[before[piece] for piece, store in copies]):
        yield tuple((piece, giver, store) for (piece, store), giver in zip(copies, givers))


def load_of(store, pairs):
    """In how many pairs the store occurs."""
    return sum(store in pair for pair in pairs)


def ceiling(total, share):
    """The number total by the share, rounded up, by counting."""
    rounds = 0
    while rounds * share < total:
        rounds += 1
    return rounds


def busiest_of(rates, pairs):
    """What busiest is, by its words."""
    return max(ceiling(load_of(store, pairs), rate) for store, rate in enumerate(rates))


def has_excess(rates, pairs, plan):
    """Whether in some round some store has more pairs than its rate."""
    for number in sorted(set(plan)):
        there = [pair for pair, pair_number in zip(pairs, plan) if pair_number == number]
        if any(load_of(store, there) > rate for store, rate in enumerate(rates)):
            return True
    return False


def journal_of(cluster, journal):
    """By the words of point 16: the first wrong line (None if there is none), where pieces stand there, the force."""
    lots, force, changed = None, None, False
    if type(journal) is not tuple or not journal:
        return 0, lots, force
    for place, line in enumerate(journal):
        if not journal_line_fits(cluster, lots, force if changed else None, line):
            return place, lots, force
        if line[0] == "first":
            lots, force = [set(lot) for lot in line[1]], line[1]
        elif line[0] == "change":
            force, changed = line[1], True
        elif line[0] == "made":
            lots[line[1]].add(line[2])
        else:
            lots[line[1]] &= set(force[line[1]])
    return None, tuple(tuple(sorted(lot)) for lot in lots), force


def journal_line_fits(cluster, lots, wanted, line):
    """Whether a line may follow, where the pieces stand at these lots (None: nothing stands yet)."""
    if type(line) is not tuple or len(line) < 2 or type(line[0]) is not str:
        return False
    word, *told = line
    if lots is None or word == "first":
        return lots is None and word == "first" and len(told) == 1 and is_placing_by_words(cluster, told[0])
    due = [piece for piece, lot in enumerate(lots) if wanted and set(wanted[piece]) < lot]
    if word == "dropped" or due:
        return word == "dropped" and len(told) == 1 and type(told[0]) is int and due[:1] == told
    if word == "change":
        return len(told) == 1 and is_placing_by_words(cluster, told[0]) and len(told[0]) == len(lots)
    if word != "made" or len(told) != 2 or wanted is None or [type(number) for number in told] != [int, int]:
        return False
    return 0 <= told[0] < len(lots) and told[1] in wanted[told[0]] and told[1] not in lots[told[0]]


def is_placing_by_words(cluster, value):
    """Whether the value is a placing of some number of pieces."""
    lots = all_lots(cluster.store_count)[1:]
    return type(value) is tuple and all(
        type(lot) is tuple and all(type(store) is int for store in lot) and lot in lots for lot in value)


def random_journal(chance, cluster, pieces, lines):
    """A right journal of so many lines at most, by chance; often one that ends while a drop is due."""
    lots = all_lots(cluster.store_count)[1:]
    journal = [("first", tuple(chance.choice(lots) for piece in range(pieces)))]
    while len(journal) < lines:
        _, stands, force = journal_of(cluster, tuple(journal))
        numbers = [("made", piece, store) for piece in range(pieces) for store in force[piece]]
        followers = [("change", tuple(chance.choice(lots) for piece in range(pieces)))]
        followers += [chance.choice(numbers) for _ in range(3) if numbers]
        followers += [("dropped", piece) for piece in range(pieces)]
        right = [line for line in followers if journal_of(cluster, tuple(journal) + (line,))[0] is None]
        journal.append(chance.choice(right[:1] * (chance.random() < 0.2) or right))
    return tuple(journal)


def some_world(chance, stores, pieces, rates=(1, 1, 2, 3)):
    """A world (cluster, wishes, before) with room enough, by chance."""
    racks = tuple(chance.randrange(stores) for store in range(stores))
    wishes = tuple(chance.randint(1, min(3, len(set(racks)))) for piece in range(pieces))
    lots = all_lots(stores)[1:]
    before = tuple(chance.choice(lots) for piece in range(pieces))
    rooms = [chance.choice((1, 2, pieces, pieces)) for store in range(stores)]
    cluster = Cluster(racks, rooms, some_rates(chance, stores, rates))
    if next(all_good_placings(cluster, wishes), None) is None:
        cluster = Cluster(racks, (pieces,) * stores, cluster.rates)
    return cluster, wishes, before


def tight_worlds(seed, many):
    """Worlds (cluster, wishes, before) with hardly room but at one store, where new copies are apt to come at once."""
    chance = random.Random(seed)
    for _ in range(many):
        stores = chance.choice((4, 5))
        racks = [chance.randrange(4) for store in range(stores)]
        wishes = [chance.randint(1, min(3, len(set(racks)))) for piece in range(chance.randint(2, 4))]
        emptied, roomy = chance.sample(range(stores), 2)
        before = []
        for wish in wishes:
            lot = set(chance.sample(range(stores), min(stores, chance.choice((wish, wish, max(1, wish - 1))))))
            before.append(tuple(sorted(lot | ({emptied} if chance.random() < 0.5 else set()))))
        rooms = [max(0, load_of(store, before) + chance.choice((-1, 0, 0, 0, 1))) for store in range(stores)]
        rooms[emptied] = chance.choice((0, 1))
        rooms[roomy] += 2
        yield Cluster(racks, rooms, some_rates(chance, stores, (1, 1, 1, 2))), tuple(wishes), tuple(before)


def goals_of(world):
    """All placings that keep the rules of a small world and are reached by the fewest new copies."""
    cluster, wishes, placing = world
    told = [(count_new(placing, good), good) for good in all_good_placings(cluster, wishes)]
    return [good for new, good in told if new == min(told)[0]]


def deed_fits(world, deed):
    """By the words: whether a plain tuple of a word, integers and a lot is a deed that fits in the world."""
    cluster, wishes, _ = world
    stores, pieces, (word, *told) = cluster.store_count, len(wishes), deed
    if word == "piece":
        return len(told) == 2 and pieces < 40 and told[0] in (1, 2, 3) and told[1] in all_lots(stores)[1:]
    allowed = {
        "store": (range(100), range(100), range(1, 9)), "room": (range(stores), range(100)), "settle": (),
        "rate": (range(stores), range(1, 9)), "wish": (range(pieces), range(1, 4)),
    }.get(word)
    if allowed is None or len(allowed) != len(told) or word == "store" and stores == 8:
        return False
    return all(number in numbers for number, numbers in zip(told, allowed))


def deed_done(world, goal, deed):
    """The world behind a deed that fits, by the words."""
    cluster, wishes, placing = world
    racks, rooms, rates, wishes = [list(part) for part in (cluster.racks, cluster.rooms, cluster.rates, wishes)]
    word, *told = deed
    if word == "store":
        for part, number in zip((racks, rooms, rates), told):
            part.append(number)
    elif word == "piece":
        wishes.append(told[0])
        placing += (told[1],)
    elif word == "settle":
        placing = goal
    else:
        {"room": rooms, "rack": racks, "rate": rates, "wish": wishes}[word][told[0]] = told[1]
    return Cluster(racks, rooms, rates), tuple(wishes), placing


def some_deed(chance, world):
    """A deed by chance; most of them fit in the world."""
    cluster, wishes, _ = world
    stores, pieces = cluster.store_count, len(wishes)
    lots = all_lots(min(stores, 4))[1:]
    return chance.choice((
        ("store", chance.randrange(4), chance.randrange(4), chance.choice((1, 2, 8))),
        ("room", chance.randrange(stores + 1), chance.randrange(pieces + 2)),
        ("rate", chance.randrange(stores), chance.choice((1, 2, 3, 9))),
        ("wish", chance.randrange(pieces + 1), chance.choice((1, 1, 2, 2, 3, 4))),
        ("piece", chance.choice((1, 1, 2, 3)), chance.choice(lots)),
        ("settle",), ("settle",),
    ))


def is_world_line(lines, place):
    """Whether the line may stand at its place in the text of a world, if all lines ahead of it may."""
    head = WORLD_HEAD.fullmatch(lines[0])
    if place == 0 or head is None:
        return head is not None
    stores, pieces = int(head[1]), int(head[2])
    if place <= stores:
        return WORLD_STORE.fullmatch(lines[place]) is not None
    piece = WORLD_PIECE.fullmatch(lines[place])
    if place > stores + pieces or piece is None:
        return False
    lot = [int(store) for store in piece[1].split(",")]
    return lot == sorted(set(lot)) and lot[-1] < stores


def spoiled_texts(text, signs):
    """Texts that differ from the text in a sign or two, or in the order and number of their lines."""
    texts, lines = {text}, text.split("\n")
    for at in range(len(text) + 1):
        head, tail = text[:at], text[at:]
        texts.update([head, tail, head + tail[1:], head + tail[:1] + tail, head + tail[1:2] + tail[:1] + tail[2:]])
        for sign in signs:
            texts.update([head + sign + tail, head + sign + tail[1:], head + sign + tail[2:]])
    for one in range(len(lines)):
        texts.add("\n".join(lines[:one] + lines[one + 1:]))
        for other in range(len(lines)):
            exchanged = list(lines)
            exchanged[one], exchanged[other] = lines[other], lines[one]
            texts.add("\n".join(exchanged))
            texts.add("\n".join(lines[:other] + [lines[one]] + lines[other:]))
    return sorted(texts)
