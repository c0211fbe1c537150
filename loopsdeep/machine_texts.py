"""The parts of a machine from its text."""

from loopsdeep.errors import BadText
from loopsdeep.machine_checks import MOST_STATES
from loopsdeep.values import is_letter


def machine_parts(text):
    """The size, first, last and moves that any value tells; raises BadText if it is no text."""
    if not isinstance(text, str):
        raise BadText(-1)
    lines = text.split("\n")
    size = told_size(lines[0])
    if size is None:
        raise BadText(0)
    if len(lines) == 1:
        raise BadText(1)
    ends = told_ends(lines[1], size)
    if ends is None:
        raise BadText(1)
    return size, ends[0], ends[1], told_moves(lines, size)


def told_number(text, limit):
    """The integer below a limit, at most 1000, that is written as Python writes it, or None."""
    # int() refuses texts of thousands of digits, so only short ones get there.
    if not 1 <= len(text) <= 3 or not all([sign in "0123456789" for sign in text]):
        return None
    number = int(text)
    if str(number) != text or number >= limit:
        return None
    return number


def told_size(line):
    """The size that the first line of a text tells, or None."""
    parts = line.split(" ")
    if len(parts) != 2 or parts[0] != "machine":
        return None
    size = told_number(parts[1], MOST_STATES + 1)
    if size == 0:
        return None
    return size


def told_ends(line, size):
    """The first and the last state that the second line of a text tells, or None."""
    parts = line.split(" ")
    if len(parts) != 3 or parts[0] != "ends":
        return None
    first = told_number(parts[1], size)
    last = told_number(parts[2], size)
    if first is None or last is None:
        return None
    return first, last


def told_move(line, size):
    """The move that a line tells, or None."""
    parts = line.split(" ")
    if len(parts) != 4 or parts[0] != "move" or not is_letter(parts[2]):
        return None
    source = told_number(parts[1], size)
    target = told_number(parts[3], size)
    if source is None or target is None:
        return None
    return source, parts[2], target


def told_moves(lines, size):
    """The moves that the lines behind the first two tell; raises BadText if they are not ascending moves."""
    moves = []
    for place, line in enumerate(lines):
        if place < 2:
            continue
        move = told_move(line, size)
        if move is None or (moves and move <= moves[-1]):
            raise BadText(place)
        moves.append(move)
    return tuple(moves)
