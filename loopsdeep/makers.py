"""Machines of given sizes."""

from loopsdeep.machines import Machine

LETTERS = "abcdefghijklmnopqrstuvwxyz"


def ring(size):
    """States in a ring, a move by a from each to the next one."""
    moves = [(state, "a", (state + 1) % size) for state in range(size)]
    return Machine(size, 0, 0, tuple(moves))


def corridor(size):
    """States in a row, a move by a from each to the next one and by b back."""
    moves = []
    for state in range(size - 1):
        moves.append((state, "a", state + 1))
        moves.append((state + 1, "b", state))
    return Machine(size, 0, 0, tuple(sorted(moves)))


def all_ways(size):
    """A move from each state to each other one, by a letter that tells how far it goes."""
    moves = []
    for state in range(size):
        for far in range(1, size):
            moves.append((state, LETTERS[far - 1], (state + far) % size))
    return Machine(size, 0, 0, tuple(moves))
