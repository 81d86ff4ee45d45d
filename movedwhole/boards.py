"""Boards: a world that deeds change, and a goal that is kept as long as it is one."""

from movedwhole.deeds import fits, world_behind
from movedwhole.errors import InvalidDeed, Undefined
from movedwhole.pasts import Past
from movedwhole.placings import check_placing, check_wishes
from movedwhole.scenes import Scene
from movedwhole.sources import least_busiest


class Board:
    """A world (cluster, wishes, placing) and a goal; all calls are kept, with the goals behind them."""

    def __init__(self, cluster, wishes, placing):
        check_wishes(wishes)
        check_placing(cluster, wishes, placing)
        self.start = (cluster, wishes, placing)
        self.past = Past(Scene(self.start))
        self.aim = self.past.now().some_goal
        self.first_aim = self.aim
        self.calls = []

    def world(self):
        """The triple (cluster, wishes, placing)."""
        return self.past.now().triple

    def goal(self):
        """A placing that keeps the rules with the fewest new copies; None if none keeps them."""
        return self.aim

    def deed(self, deed):
        """Does the deed; answers a report (word, new, rounds) of the goal behind it."""
        if not fits(self.world(), deed):
            raise InvalidDeed(deed)
        if deed[0] == "settle" and self.aim is None:
            raise Undefined("goal")
        self.past.go_on(deed, Scene(world_behind(self.world(), self.aim, deed)))
        return self.report(deed)

    def undo(self):
        """Undoes the last deed; answers a report."""
        self.past.undo()
        return self.report(("undo",))

    def redo(self):
        """Does the deed that was undone last again; answers a report."""
        self.past.redo()
        return self.report(("redo",))

    def done(self):
        """The deeds that are done and not undone, in order."""
        return tuple(self.past.deeds)

    def report(self, call):
        """Puts another goal in the place of one that is none here, keeps the call, and tells of the goal."""
        scene = self.past.now()
        kept = scene.is_goal(self.aim)
        if not kept:
            self.aim = scene.some_goal
        self.calls.append((call, self.aim))
        if self.aim is None:
            return ("none", 0, 0)
        cluster, _, placing = scene.triple
        return ("kept" if kept else "renewed", scene.new_of(self.aim), least_busiest(cluster, placing, self.aim))
