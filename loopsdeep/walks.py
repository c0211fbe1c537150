"""Walks through a machine, step by step."""

from loopsdeep.errors import NoMove, NothingToUndo
from loopsdeep.values import is_letter


class Walk:
    """A way through a machine from its first state.

    The word is enough to take steps back: only one move by its last letter enters the state.
    """

    def __init__(self, machine):
        self.machine = machine
        self._state = machine.first
        self._word = ""

    def __len__(self):
        return len(self._word)

    @property
    def state(self):
        """The state in which the walk is."""
        return self._state

    @property
    def word(self):
        """The letters of the steps so far."""
        return self._word

    @property
    def is_done(self):
        """Whether the walk is in the last state."""
        return self._state == self.machine.last

    def go(self, letter):
        """Goes along the move by a letter; raises NoMove for any value by which none leaves the state."""
        target = None
        if is_letter(letter):
            target = self.machine.after(self._state, letter)
        if target is None:
            raise NoMove(letter)
        self._state = target
        self._word = self._word + letter

    def undo(self):
        """Takes the last step back; raises NothingToUndo if there is none."""
        if self._word == "":
            raise NothingToUndo()
        self._state = self.machine.before(self._state, self._word[-1])
        self._word = self._word[:-1]

    def tried(self, action):
        """Calls a function with the walk and returns what it returns; behind it the walk is as it was before."""
        state = self._state
        word = self._word
        try:
            return action(self)
        finally:
            self._state = state
            self._word = word
