"""Findings: what this package tells, with machines and expressions by their texts."""

from loopsdeep.judging import judge_holds, table_holds
from loopsdeep.machines import is_word
from loopsdeep.ranks import levels_hold
from loopsdeep.readings import reading_holds
from loopsdeep.reversing import witness_holds
from loopsdeep.told_texts import expression_told, machine_told
from loopsdeep.values import is_number


def finding_holds(thing):
    """Whether any value is a finding that holds."""
    if not isinstance(thing, tuple) or not thing or not isinstance(thing[0], str):
        return False
    if len(thing) != LENGTHS.get(thing[0]):
        return False
    check = CHECKS[thing[0]]
    parts = thing[1:]
    return check(*parts)


def is_paper_told(text, depth, paper):
    """Whether any values are the text of a machine, a depth and a paper for both."""
    machine = machine_told(text)
    if machine is None or not is_number(depth) or depth < 0:
        return False
    if isinstance(paper, tuple) and len(paper) == 3:
        return judge_holds(machine, depth, (paper[0], expression_told(paper[1]), paper[2]))
    return judge_holds(machine, depth, paper)


def is_same_told(text, other, found):
    """Whether any values are the texts of a machine and an expression, and a table for both."""
    machine = machine_told(text)
    expression = expression_told(other)
    if machine is None or expression is None:
        return False
    return table_holds(machine, expression, found)


def is_apart_told(text, other, word):
    """Whether any values are the texts of a machine and an expression, and a word of just one of both."""
    machine = machine_told(text)
    expression = expression_told(other)
    if machine is None or expression is None or not is_word(word):
        return False
    return (word in machine) != (word in expression)


def is_levels_told(text, given):
    """Whether any values are the text of a machine and levels of it."""
    machine = machine_told(text)
    return machine is not None and levels_hold(machine, given)


def is_witness_told(text, found):
    """Whether any values are the text of an expression and a witness for it."""
    expression = expression_told(text)
    return expression is not None and witness_holds(expression, found)


def is_reading_told(text, word, found):
    """Whether any values are the text of an expression, a word, and a reading of it."""
    expression = expression_told(text)
    if expression is None or not is_word(word):
        return False
    return reading_holds(expression, word, found)


LENGTHS = {"paper": 4, "same": 4, "apart": 4, "levels": 3, "witness": 3, "reading": 4}
CHECKS = {
    "paper": is_paper_told,
    "same": is_same_told,
    "apart": is_apart_told,
    "levels": is_levels_told,
    "witness": is_witness_told,
    "reading": is_reading_told,
}
