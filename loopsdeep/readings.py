"""Readings: how an expression reads a word, part by part and round by round."""

from loopsdeep.follows import Follows
from loopsdeep.reading_paths import reading_along, path_along
from loopsdeep.values import is_number


def reading(expression, word):
    """A reading of a word by an expression, or None if the word is none of its words."""
    follows = Follows(expression)
    path = path_along(follows, word)
    if path is None:
        return None
    return reading_along(follows, path)


def reading_holds(expression, word, thing):
    """Whether any value is a reading of a word by an expression."""
    signs = []
    waiting = [(expression, thing)]
    while waiting:
        node, told = waiting.pop()
        if node.kind == "letter":
            if not isinstance(told, str) or told != node.parts[0]:
                return False
            signs.append(told)
        else:
            inner = readings_within(node, told)
            if inner is None:
                return False
            waiting.extend(inner[::-1])
    return "".join(signs) == word


def rounds_of(expression, reading):
    """The greatest number of rounds in one of the readings, by loops and somes, within a reading."""
    most = 0
    waiting = [(expression, reading)]
    while waiting:
        node, told = waiting.pop()
        if node.kind in ("loop", "some"):
            most = max(most, len(told))
        if node.kind != "letter":
            waiting.extend(readings_within(node, told))
    return most


def readings_within(node, thing):
    """The pairs of a part and the value given as its reading that a value has, or None if it has not their form."""
    if not isinstance(thing, tuple):
        return None
    many = len(thing)
    if node.kind in ("one", "row"):
        return list(zip(node.parts, thing)) if many == len(node.parts) else None
    if node.kind == "choice":
        if many != 2 or not is_number(thing[0]) or not 0 <= thing[0] < len(node.parts):
            return None
        return [(node.parts[thing[0]], thing[1])]
    if (node.kind == "some" and many == 0) or (node.kind == "maybe" and many > 1):
        return None
    return [(node.parts[0], told) for told in thing]
