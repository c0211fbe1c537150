"""The errors of this package."""


class LoopError(Exception):
    """The base class of all errors of this package."""


class BadMachine(LoopError):
    """A part from which no machine can be made."""

    def __init__(self, part):
        self.part = part


class BadExpression(LoopError):
    """A part from which no expression can be made."""

    def __init__(self, part):
        self.part = part


class BadText(LoopError):
    """A place at which a value is no text of the kind that is read."""

    def __init__(self, place):
        self.place = place


class SharedLetter(LoopError):
    """A letter that two machines, or two letters of one machine, would share."""

    def __init__(self, letter):
        self.letter = letter


class NotReversible(LoopError):
    """A witness that no machine has the words of an expression."""

    def __init__(self, witness):
        self.witness = witness


class BadLevels(LoopError):
    """A value that is no levels of a machine."""

    def __init__(self, levels):
        self.levels = levels


class NoMove(LoopError):
    """A value by which no move leaves the state of a walk."""

    def __init__(self, letter):
        self.letter = letter


class NothingToUndo(LoopError):
    """A walk has no step that can be taken back."""


class InvalidCommand(LoopError):
    """A value is no command of the console."""


class NoMachine(LoopError):
    """A command needs a machine, and the console keeps none."""
