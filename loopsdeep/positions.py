"""Positions of an expression, and lots: how much of a word is read."""

from loopsdeep.expression_trees import letters_of
from loopsdeep.follows import Follows
from loopsdeep.values import is_number


def position_letters(expression):
    """The string of the letters at the positions of an expression."""
    return letters_of(expression)


def is_lot(expression, thing):
    """Whether any value is a lot of an expression."""
    if not isinstance(thing, tuple) or not all([is_number(position) for position in thing]):
        return False
    if thing == (-1,):
        return True
    return list(thing) == sorted(set(thing)) and all([0 <= position < expression.size for position in thing])


def is_ending(expression, lot):
    """Whether an expression has a word that is read as far as a lot tells and ends there."""
    return Follows(expression).is_end(lot)


def lot_behind(expression, lot, letter):
    """The lot of the positions with a letter that can be read directly behind a lot."""
    return Follows(expression).lot_by(lot, letter)
