"""From an expression to the machine with its words, or to a witness that there is none."""

from loopsdeep.errors import NotReversible
from loopsdeep.follows import Follows
from loopsdeep.machines import Machine, is_word
from loopsdeep.merging import Groups
from loopsdeep.witness_search import WitnessSearch


def machine_of(expression):
    """The machine with the words of an expression, numbered; raises NotReversible with a witness if there is none."""
    follows = Follows(expression)
    groups = Groups(follows)
    found = WitnessSearch(follows, groups).first_witness()
    if found is not None:
        raise NotReversible(found)
    return machine_by(groups).numbered()


def machine_by(groups):
    """The machine whose states are the groups of positions."""
    numbers = {group: number for number, group in enumerate(groups.ways)}
    moves = []
    for group, ways in groups.ways.items():
        for letter, step in ways.items():
            moves.append((numbers[group], letter, numbers[groups.group_of[step[1]]]))
    first = numbers[groups.group_of[-1]]
    last = numbers[groups.group_of[groups.ends[0]]]
    return Machine(len(numbers), first, last, tuple(sorted(moves)))


def witness(expression):
    """A witness that no machine has the words of an expression, or None."""
    follows = Follows(expression)
    return WitnessSearch(follows, Groups(follows)).first_witness()


def witness_holds(expression, thing):
    """Whether any value is a witness for an expression."""
    if not isinstance(thing, tuple) or len(thing) != 4 or not all([is_word(word) for word in thing]):
        return False
    follows = Follows(expression)
    begin, other, end, rest = thing
    if not all([follows.reads(word) for word in (begin + end, begin + rest, other + end)]):
        return False
    return not follows.reads(other + rest)
