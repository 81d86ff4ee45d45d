"""Moves (piece, giver, taker), and how much their pairs (giver, taker) load the stores."""

from movedwhole.errors import InvalidMoves, InvalidPairs
from movedwhole.kinds import is_number, is_within
from movedwhole.placings import new_copies


def first_wrong_move(before, after, moves):
    """The place at which the moves are no list of moves of this change; None if they are one."""
    if not is_moves(moves):
        raise InvalidMoves(moves)
    wanted = new_copies(before, after)
    for place, (piece, giver, taker) in enumerate(moves):
        if place >= len(wanted) or wanted[place] != (piece, taker) or giver not in before[piece]:
            return place
    return len(moves) if len(moves) < len(wanted) else None


def is_moves(value):
    """Whether the value is a tuple of triples of numbers, whatever they tell."""
    if not isinstance(value, tuple):
        return False
    for move in value:
        if not isinstance(move, tuple) or len(move) != 3 or not all([is_number(number) for number in move]):
            return False
    return True


def loads(many, pairs):
    """For each of so many stores: in how many pairs it occurs."""
    check_pairs(many, pairs)
    ends = [store for pair in pairs for store in pair]
    return tuple([ends.count(store) for store in range(many)])


def busiest(rates, pairs):
    """The greatest load by rate, rounded up: no plan without an excess has fewer rounds."""
    return max([rounded_up(load, rate) for load, rate in zip(loads(len(rates), pairs), rates)])


def pairs_of(moves):
    """The pairs (giver, taker) of the moves, in order."""
    return tuple([(giver, taker) for piece, giver, taker in moves])


def check_pairs(many, pairs):
    """InvalidPairs unless they are a tuple of pairs of unlike stores, numbered below many."""
    if not isinstance(pairs, tuple):
        raise InvalidPairs(pairs)
    for pair in pairs:
        if not isinstance(pair, tuple) or len(pair) != 2 or not all([is_within(end, (0, many - 1)) for end in pair]):
            raise InvalidPairs(pairs)
        giver, taker = pair
        if giver == taker:
            raise InvalidPairs(pairs)


def rounded_up(total, share):
    """The number total by the share, rounded up."""
    return -(-total // share)
