"""Scenes: worlds of which it is known what their goals are."""

from movedwhole.cheapest import fewest_placing
from movedwhole.errors import Undefined
from movedwhole.placings import first_breach, is_placing, new_copies


class Scene:
    """A world (cluster, wishes, placing), and some goal of it: None if no placing keeps the rules."""

    def __init__(self, triple):
        self.triple = triple
        self.some_goal = goal_of(triple)

    def new_of(self, goal):
        """How many new copies it takes to reach the goal."""
        return len(new_copies(self.triple[2], goal))

    def is_goal(self, value):
        """Whether the value is a placing that keeps the rules here, reached by the fewest new copies."""
        cluster, wishes, _ = self.triple
        if not is_placing(cluster, value, len(wishes)) or first_breach(cluster, wishes, value) is not None:
            return False
        return self.new_of(value) == self.new_of(self.some_goal)


def goal_of(triple):
    """Some placing that keeps the rules with the fewest new copies; None if none keeps them."""
    cluster, wishes, placing = triple
    try:
        return fewest_placing(cluster, wishes, placing)
    except Undefined:
        return None
