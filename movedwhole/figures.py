"""Integers, lots and placings as texts and lines tell them: by figures, joined by commas and semicolons."""

from movedwhole.kinds import is_lot, is_within

FIGURES = "0123456789"
MOST_FIGURES = 2
# What can be told by so many figures.
TOLD_BOUNDS = (0, 99)
NO_LOTS = "-"


def read_integer(word, bounds):
    """The integer within the bounds that the word tells; None if it tells none."""
    # The length comes first: Python refuses to read integers of very many figures.
    if not 1 <= len(word) <= MOST_FIGURES or not all([sign in FIGURES for sign in word]):
        return None
    if len(word) > 1 and word[0] == "0":
        return None
    value = int(word)
    return value if is_within(value, bounds) else None


def read_list(word):
    """The integers, of one at least, that the word tells; None if it tells none."""
    integers = tuple([read_integer(part, TOLD_BOUNDS) for part in word.split(",")])
    return None if None in integers else integers


def read_lot(word, stores):
    """The non-empty lot of stores numbered below stores that the word tells; None if it tells none."""
    lot = read_list(word)
    return lot if is_lot(lot, stores) else None


def lot_text(lot):
    """The word that tells the lot."""
    return ",".join([str(store) for store in lot])


def read_lots(word, stores):
    """The placing, at stores numbered below stores, that the word tells; None if it tells none."""
    if word == NO_LOTS:
        return ()
    lots = tuple([read_lot(part, stores) for part in word.split(";")])
    return None if None in lots else lots


def lots_text(placing):
    """The word that tells the placing."""
    return ";".join([lot_text(lot) for lot in placing]) if placing else NO_LOTS
