"""Placings that keep the rules and are reached by the fewest new copies."""

from movedwhole.errors import Undefined
from movedwhole.fillings import filled
from movedwhole.placings import check_placing, check_wishes, new_copies


def fewest_placing(cluster, wishes, before):
    """Some placing that keeps the rules, with as few new copies from before as can be."""
    return cheapest_filling(cluster, wishes, before).placed()


def fewest_new(cluster, wishes, before):
    """How many new copies it takes from before to a placing that keeps the rules, at the least."""
    return len(new_copies(before, fewest_placing(cluster, wishes, before)))


def cheapest_filling(cluster, wishes, before):
    """The Filling of fewest_placing, with its errors."""
    check_wishes(wishes)
    check_placing(cluster, wishes, before)
    filling = filled(cluster, wishes, before)
    if filling is None:
        raise Undefined("room")
    return filling
