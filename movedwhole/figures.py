"""Integers and lots as texts and lines tell them: by figures, lots joined by commas."""

from movedwhole.kinds import is_lot, is_within

FIGURES = "0123456789"
MOST_FIGURES = 2


def read_integer(word, bounds):
    """The integer within the bounds that the word tells; None if it tells none."""
    # The length comes first: Python refuses to read integers of very many figures.
    if not 1 <= len(word) <= MOST_FIGURES or not all([sign in FIGURES for sign in word]):
        return None
    if len(word) > 1 and word[0] == "0":
        return None
    value = int(word)
    return value if is_within(value, bounds) else None


def read_lot(word, stores):
    """The non-empty lot of stores numbered below stores that the word tells; None if it tells none."""
    lot = tuple([read_integer(part, (0, stores - 1)) for part in word.split(",")])
    return lot if is_lot(lot, stores) else None


def lot_text(lot):
    """The word that tells the lot."""
    return ",".join([str(store) for store in lot])
