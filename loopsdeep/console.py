"""The console: commands about a machine that it keeps."""

from loopsdeep.commands import answer_of, command_read
from loopsdeep.errors import NoMachine, NotReversible
from loopsdeep.reversing import machine_of


class Console:
    """Keeps a machine, at first none, and answers commands."""

    def __init__(self):
        self._machine = None

    def run(self, command):
        """The answer to any value as a command; raises InvalidCommand if it is none, then NoMachine."""
        name, told = command_read(command)
        if name == "machine":
            self._machine = told
            return "ok"
        if name == "from":
            return self._keep_machine_of(told)
        if self._machine is None:
            raise NoMachine()
        return answer_of(self._machine, name, told)

    def _keep_machine_of(self, expression):
        try:
            self._machine = machine_of(expression)
        except NotReversible:
            return "no"
        return "ok"
