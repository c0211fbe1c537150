"""Machines and expressions that any values tell by their texts."""

from loopsdeep.errors import BadMachine, BadText
from loopsdeep.expressions import Expression
from loopsdeep.machines import Machine


def machine_told(thing):
    """The machine with a text, or None for any value that is no text of a machine."""
    try:
        return Machine.read(thing)
    except (BadText, BadMachine):
        return None


def expression_told(thing):
    """The expression with a text, or None for any value that is no text of an expression."""
    try:
        return Expression.read(thing)
    except BadText:
        return None
