"""Texts of worlds: a cluster, wishes and a placing, written line by line and read again."""

from movedwhole.clusters import Cluster, MOST_STORES, RACK_BOUNDS, RATE_BOUNDS, ROOM_BOUNDS
from movedwhole.errors import InvalidText
from movedwhole.figures import lot_text, read_integer, read_lot
from movedwhole.placings import MOST_PIECES, WISH_BOUNDS


def write_world(cluster, wishes, placing):
    """The text that tells the cluster, the wishes and the placing."""
    lines = [f"cluster {cluster.store_count} {len(wishes)}"]
    for rack, room, rate in zip(cluster.racks, cluster.rooms, cluster.rates):
        lines.append(f"store {rack} {room} {rate}")
    for wish, lot in zip(wishes, placing):
        lines.append(f"piece {wish} {lot_text(lot)}")
    return "\n".join(lines)


def read_world(text):
    """The triple (cluster, wishes, placing) that the text tells; InvalidText where it tells none."""
    rows = []
    at = 0
    for line in text.split("\n"):
        row = read_row(line, rows)
        if row is None:
            raise InvalidText(text, at)
        rows.append(row)
        at += len(line) + 1
    if not is_whole(rows):
        raise InvalidText(text, len(text))
    return world_told(rows)


def read_row(line, rows):
    """What the line tells behind the rows read so far; None if it cannot stand there."""
    if not rows:
        return read_integers(line, "cluster", ((1, MOST_STORES), (0, MOST_PIECES)))
    stores, pieces = rows[0]
    if len(rows) <= stores:
        return read_integers(line, "store", (RACK_BOUNDS, ROOM_BOUNDS, RATE_BOUNDS))
    if len(rows) <= stores + pieces:
        return read_piece(line, stores)
    return None


def read_integers(line, word, bounds):
    """The integers, each within its bounds, that the line tells behind the word; None if it is no such line."""
    words = line.split(" ")
    if words[0] != word or len(words) != len(bounds) + 1:
        return None
    integers = [read_integer(told, bound) for told, bound in zip(words[1:], bounds)]
    return None if None in integers else tuple(integers)


def read_piece(line, stores):
    """The pair (wish, lot) that the line tells; None if it is no line of a piece."""
    words = line.split(" ")
    if words[0] != "piece" or len(words) != 3:
        return None
    wish = read_integer(words[1], WISH_BOUNDS)
    lot = read_lot(words[2], stores)
    return None if wish is None or lot is None else (wish, lot)


def is_whole(rows):
    """Whether there are as many rows as the first one tells."""
    stores, pieces = rows[0]
    return len(rows) > stores + pieces


def world_told(rows):
    """The triple that all rows, those of stores (rack, room, rate) and of pieces (wish, lot) behind the first, tell."""
    stores = rows[1:rows[0][0] + 1]
    pieces = rows[len(stores) + 1:]
    cluster = Cluster(
        [rack for rack, room, rate in stores],
        [room for rack, room, rate in stores],
        [rate for rack, room, rate in stores],
    )
    return (cluster, tuple([wish for wish, lot in pieces]), tuple([lot for wish, lot in pieces]))
