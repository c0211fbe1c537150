"""Whether any values are the parts of a machine."""

from loopsdeep.errors import BadMachine
from loopsdeep.values import is_letter, is_number

MOST_STATES = 999


def check_machine(size, first, last, moves):
    """Raises BadMachine with the first part of a machine that is not as it has to be."""
    if not is_number(size) or not 1 <= size <= MOST_STATES:
        raise BadMachine("size")
    if not is_state(first, size):
        raise BadMachine("first")
    if not is_state(last, size):
        raise BadMachine("last")
    check_moves(size, moves)
    check_ends(moves, 0)
    check_ends(moves, 2)
    check_paths(size, first, last, moves)


def is_state(thing, size):
    """Whether any value is a state of a machine of this size."""
    return is_number(thing) and 0 <= thing < size


def is_move(thing, size):
    """Whether any value can be a move of a machine of this size."""
    if not isinstance(thing, tuple) or len(thing) != 3:
        return False
    return is_state(thing[0], size) and is_letter(thing[1]) and is_state(thing[2], size)


def check_moves(size, moves):
    """Raises BadMachine if moves are no ascending tuple of moves."""
    if not isinstance(moves, tuple):
        raise BadMachine("moves")
    for move in moves:
        if not is_move(move, size):
            raise BadMachine(move)
    if list(moves) != sorted(set(moves)):
        raise BadMachine("order")


def check_ends(moves, end):
    """Raises BadMachine with a move that has the letter and the state at this end of one before it."""
    seen = set()
    for move in moves:
        if (move[1], move[end]) in seen:
            raise BadMachine(move)
        seen.add((move[1], move[end]))


def check_paths(size, first, last, moves):
    """Raises BadMachine with the least state on no path from the first to the last one."""
    ahead = reached(size, first, [(move[0], move[2]) for move in moves])
    behind = reached(size, last, [(move[2], move[0]) for move in moves])
    for state in range(size):
        if state not in ahead or state not in behind:
            raise BadMachine(state)


def reached(size, start, steps):
    """A dict of the states to which paths of steps, pairs of states, lead from a state."""
    ahead = [[] for _ in range(size)]
    for source, target in steps:
        ahead[source].append(target)
    found = {start: True}
    waiting = [start]
    while waiting:
        state = waiting.pop()
        for target in ahead[state]:
            if target not in found:
                found[target] = True
                waiting.append(target)
    return found
