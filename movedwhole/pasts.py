"""What deeds led to, so that they can be undone and done again."""

from movedwhole.errors import NothingToUndo


class Past:
    """The states that deeds led to, one behind the other, and those that undo led back from."""

    def __init__(self, state):
        self.states = [state]
        self.deeds = []
        self.undone = []

    def now(self):
        """The state that is reached."""
        return self.states[-1]

    def go_on(self, deed, state):
        """Does a deed that leads to the state; what was undone cannot be done again from here on."""
        self.deeds.append(deed)
        self.states.append(state)
        self.undone = []

    def undo(self):
        """Undoes the last deed."""
        if not self.deeds:
            raise NothingToUndo("undo")
        self.undone.append((self.deeds.pop(), self.states.pop()))

    def redo(self):
        """Does the deed that was undone last again: it leads to the state that it led to."""
        if not self.undone:
            raise NothingToUndo("redo")
        deed, state = self.undone.pop()
        self.deeds.append(deed)
        self.states.append(state)
