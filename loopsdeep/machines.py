"""Words, and machines that are deterministic in both directions."""

from loopsdeep.errors import SharedLetter
from loopsdeep.machine_checks import check_machine
from loopsdeep.machine_texts import machine_parts
from loopsdeep.values import is_letter


def is_word(thing):
    """Whether any value is a word."""
    return isinstance(thing, str) and all([is_letter(sign) for sign in thing])


class Machine:
    """States, a first and a last one among them, and moves between them by letters."""

    def __init__(self, size, first, last, moves):
        check_machine(size, first, last, moves)
        self.size = size
        self.first = first
        self.last = last
        self.moves = moves
        self.letters = "".join(sorted(set([move[1] for move in moves])))
        self._entered = {(source, letter): target for source, letter, target in moves}
        self._left = {(target, letter): source for source, letter, target in moves}

    def __len__(self):
        return len(range(self.size))

    def __eq__(self, other):
        return (isinstance(other, Machine) and self.size == other.size and self.first == other.first
                and self.last == other.last and self.moves == other.moves)

    def __str__(self):
        lines = [f"machine {self.size}", f"ends {self.first} {self.last}"]
        for source, letter, target in self.moves:
            lines.append(f"move {source} {letter} {target}")
        return "\n".join(lines)

    @classmethod
    def read(cls, text):
        """The machine with a text; raises BadText for any value that is none, then BadMachine."""
        size, first, last, moves = machine_parts(text)
        return cls(size, first, last, moves)

    def after(self, state, letter):
        """The state that the move by a letter from a state enters, or None."""
        return self._entered.get((state, letter))

    def before(self, state, letter):
        """The state that the move by a letter to a state leaves, or None."""
        return self._left.get((state, letter))

    def state_of(self, word):
        """The state in which the path ends that spells a word, or None."""
        state = self.first
        for letter in word:
            state = self.after(state, letter)
            if state is None:
                return None
        return state

    def __contains__(self, word):
        return is_word(word) and self.state_of(word) == self.last

    def words(self, *, most=None):
        """Yields the words, shorter ones first, then ascending; those of at most so many letters if told."""
        ahead = [{self.last: True}]
        while ahead[-1] and (most is None or len(ahead) <= most + 1):
            yield from spelled(self, ahead)
            ahead = [*ahead, states_before(self, ahead[-1])]

    def backward(self):
        """The machine whose paths are the paths of this one, gone from their end to their begin."""
        moves = [(target, letter, source) for source, letter, target in self.moves]
        return Machine(self.size, self.last, self.first, tuple(sorted(moves)))

    def renamed(self, **letters):
        """The machine with other letters; raises SharedLetter with the least one that two would become."""
        names = {letter: letters.get(letter, letter) for letter in self.letters}
        given = sorted(list(names.values()))
        for place in range(len(given) - 1):
            if given[place] == given[place + 1]:
                raise SharedLetter(given[place])
        moves = [(source, names[letter], target) for source, letter, target in self.moves]
        return Machine(self.size, self.first, self.last, tuple(sorted(moves)))

    def numbered(self):
        """The machine with its states numbered as they are met from the first one."""
        numbers = met_numbers(self)
        moves = [(numbers[source], letter, numbers[target]) for source, letter, target in self.moves]
        return Machine(self.size, numbers[self.first], numbers[self.last], tuple(sorted(moves)))

    def is_same(self, other):
        """Whether two machines have the same words."""
        return self.numbered() == other.numbered()

    def __and__(self, other):
        if not isinstance(other, Machine):
            return NotImplemented
        for letter in self.letters:
            if letter in other.letters:
                raise SharedLetter(letter)
        first = self.first * other.size + other.first
        last = self.last * other.size + other.last
        return Machine(self.size * other.size, first, last, joined_moves(self, other))


def states_before(machine, states):
    """A dict of the states from which one move leads to one of some states."""
    return {source: True for source, letter, target in machine.moves if target in states}


def spelled(machine, ahead):
    """Yields the words with one letter less than ahead has items, ascending.

    Item k of ahead has the states from which k moves can lead to the last one: so no path is begun in vain.
    """
    waiting = []
    if machine.first in ahead[-1]:
        waiting.append(("", machine.first))
    while waiting:
        word, state = waiting.pop()
        missing = len(ahead) - 1 - len(word)
        if missing == 0:
            yield word
            continue
        # The least letter is put down last, as what is put down last is taken up first.
        for letter in reversed(machine.letters):
            target = machine.after(state, letter)
            if target in ahead[missing - 1]:
                waiting.append((word + letter, target))


def met_numbers(machine):
    """A dict of the numbers of the states, in the order in which they are met from the first one."""
    numbers = {machine.first: 0}
    order = [machine.first]
    place = 0
    while place < len(order):
        for letter in machine.letters:
            target = machine.after(order[place], letter)
            if target is not None and target not in numbers:
                numbers[target] = len(order)
                order.append(target)
        place += 1
    return numbers


def joined_moves(machine, other):
    """The moves of two machines side by side: each one moves one of both and leaves the other one."""
    moves = []
    for source, letter, target in machine.moves:
        for state in range(other.size):
            moves.append((source * other.size + state, letter, target * other.size + state))
    for source, letter, target in other.moves:
        for state in range(machine.size):
            moves.append((state * other.size + source, letter, state * other.size + target))
    return tuple(sorted(moves))
