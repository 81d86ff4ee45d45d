"""Texts of journals: written line by line and read again."""

from movedwhole.errors import InvalidText
from movedwhole.figures import TOLD_BOUNDS, lots_text, read_integer, read_lots
from movedwhole.journals import Ledger


def write_journal(journal):
    """The text of a right journal."""
    return "\n".join([line_text(line) for line in journal])


def line_text(line):
    """The line of text that tells the journal's line."""
    if line[0] in ("first", "change"):
        return f"{line[0]} {lots_text(line[1])}"
    return " ".join([str(word) for word in line])


def read_journal(cluster, text):
    """The right journal that the text tells; InvalidText where it tells none."""
    ledger = Ledger()
    journal = []
    at = 0
    for told in text.split("\n"):
        line = read_line(cluster, told)
        if not ledger.fits(cluster, line):
            raise InvalidText(text, at)
        ledger.take(line)
        journal.append(line)
        at += len(told) + 1
    return tuple(journal)


def read_line(cluster, told):
    """The journal's line that the line of text tells; None if it is of no such form."""
    words = told.split(" ")
    many = cluster.store_count
    if words[0] in ("first", "change") and len(words) == 2:
        parts = [read_lots(words[1], many)]
    elif words[0] == "made" and len(words) == 3:
        parts = [read_integer(words[1], TOLD_BOUNDS), read_integer(words[2], (0, many - 1))]
    elif words[0] == "dropped" and len(words) == 2:
        parts = [read_integer(words[1], TOLD_BOUNDS)]
    else:
        return None
    return None if None in parts else (words[0], *parts)
