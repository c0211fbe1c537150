"""The head of "The interface": where everything is defined, and how parameters can be passed."""

import inspect
import unittest

from loopsdeep import (
    console, errors, expressions, findings, judging, machines, makers, positions, ranks, readings, reversing, walks)
from loopsdeep.console import Console
from loopsdeep.errors import BadLevels, BadText
from loopsdeep.expressions import Expression, one
from loopsdeep.machines import Machine
from loopsdeep.makers import corridor
from loopsdeep.walks import Walk
from tests.samples import random_machines, sample_texts, shown

# For each function: its parameters; "=" marks a default value, "*" those that follow as passed only by name.
FUNCTIONS = {
    machines: {"is_word": ["thing"]},
    makers: {"ring": ["size"], "corridor": ["size"], "all_ways": ["size"]},
    expressions: {"one": [], "letter": ["sign"], "joined": ["*expressions"], "chosen": ["*expressions"]},
    positions: {"position_letters": ["expression"], "is_lot": ["expression", "thing"],
                "is_ending": ["expression", "lot"], "lot_behind": ["expression", "lot", "letter"]},
    readings: {"reading": ["expression", "word"], "reading_holds": ["expression", "word", "thing"],
               "rounds_of": ["expression", "reading"]},
    ranks: {"knots": ["machine", "states"], "rank": ["machine"], "levels": ["machine"],
            "levels_hold": ["machine", "thing"], "nest": ["machine"], "nest_holds": ["machine", "thing"],
            "least_cuts": ["machine"]},
    judging: {"expression_for": ["machine", "*", "levels=None"], "table": ["machine", "expression"],
              "table_holds": ["machine", "expression", "thing"], "parting_word": ["machine", "expression"],
              "judge": ["machine", "depth"], "judge_holds": ["machine", "depth", "thing"]},
    reversing: {"machine_of": ["expression"], "witness": ["expression"], "witness_holds": ["expression", "thing"]},
    findings: {"finding_holds": ["thing"]},
    walks: {}, console: {}, errors: {},
}
METHODS = {
    Machine: {"__init__": ["size", "first", "last", "moves"], "after": ["state", "letter"],
              "before": ["state", "letter"], "state_of": ["word"], "words": ["*", "most=None"], "backward": [],
              "renamed": ["**letters"], "numbered": [], "is_same": ["other"], "read": ["text"], "__len__": [],
              "__str__": [], "__eq__": ["other"], "__and__": ["other"], "__contains__": ["word"]},
    Expression: {"__init__": ["kind", "parts=()"], "read": ["text"], "loop": [], "some": [], "maybe": [],
                 "backward": [], "__str__": [], "__eq__": ["other"], "__add__": ["other"], "__or__": ["other"],
                 "__contains__": ["word"]},
    Walk: {"__init__": ["machine"], "go": ["letter"], "undo": [], "tried": ["action"], "__len__": []},
    Console: {"__init__": [], "run": ["command"]},
}
PROPERTIES = {Walk: {"state": int, "word": str, "is_done": bool}}
ATTRIBUTES = {
    Machine: {"size": int, "first": int, "last": int, "moves": tuple, "letters": str},
    Expression: {"kind": str, "parts": tuple, "depth": int, "size": int, "letters": str},
    Walk: {"machine": Machine},
}


def told(function):
    """The parameters of a function in the form of the tables above, without the object of a method."""
    found = []
    for name, parameter in inspect.signature(function).parameters.items():
        if parameter.kind == parameter.KEYWORD_ONLY and "*" not in found:
            found.append("*")
        mark = {parameter.VAR_POSITIONAL: "*", parameter.VAR_KEYWORD: "**"}.get(parameter.kind, "")
        default = "" if parameter.default is parameter.empty else f"={parameter.default!r}"
        if name != "self":
            found.append(mark + name + default)
    return found


class InterfaceTest(unittest.TestCase):

    def test_functions(self):
        for module, functions in FUNCTIONS.items():
            for name, parameters in functions.items():
                function = getattr(module, name)
                self.assertEqual(function.__module__, module.__name__)
                self.assertEqual(told(function), parameters, name)

    def test_methods(self):
        for kind, methods in METHODS.items():
            for name, parameters in methods.items():
                self.assertIn(name, vars(kind))
                self.assertEqual(told(getattr(kind, name)), parameters, name)
        self.assertEqual([kind.__module__ for kind in METHODS], [
            "loopsdeep.machines", "loopsdeep.expressions", "loopsdeep.walks", "loopsdeep.console"])

    def test_properties(self):
        for kind, properties in PROPERTIES.items():
            for name, told_kind in properties.items():
                self.assertIsInstance(vars(kind)[name], property)
                self.assertIs(type(getattr(kind(corridor(2)), name)), told_kind)

    def test_attributes(self):
        made = random_machines(51, 20) + [Expression.read(text) for text in sample_texts()]
        made += [Walk(machine) for machine in random_machines(55, 5)]
        for thing in made:
            for name, kind in ATTRIBUTES[thing.__class__].items():
                self.assertIs(type(getattr(thing, name)), kind)
                self.assertIn(name, vars(thing))

    def test_read_is_a_class_method(self):
        self.assertIsInstance(Machine.read("machine 1\nends 0 0"), Machine)
        self.assertIsInstance(Expression.read("1"), Expression)
        self.assertEqual(corridor(2).read("machine 1\nends 0 0"), corridor(1))
        self.assertEqual(one().read("(a b)"), Expression.read("(a b)"))
        for kind in (Machine, Expression):
            with self.assertRaises(BadText):
                kind.read(text=None)

    def test_no_object_is_iterated_over(self):
        for thing in (corridor(3), Expression.read("(a b)"), Walk(corridor(3)), Console()):
            with self.assertRaises(TypeError):
                iter(thing)

    def test_same_call_returns_an_equal_result(self):
        for machine in random_machines(52, 20):
            self.assertEqual(machine.numbered(), machine.numbered())
            self.assertEqual(machine.backward(), machine.backward())
            self.assertEqual(list(machine.words(most=3)), list(machine.words(most=3)))
        for text in sample_texts():
            expression = Expression.read(text)
            self.assertEqual(expression.backward(), expression.backward())
            for letter in expression.letters:
                self.assertEqual(positions.lot_behind(expression, (-1,), letter),
                                 positions.lot_behind(expression, (-1,), letter))
            for word in ("", "a", "ab"):
                self.assertEqual(readings.reading(expression, word), readings.reading(expression, word))
        for machine in random_machines(53, 20, most=5):
            for function in (ranks.rank, ranks.levels, ranks.nest, ranks.least_cuts, judging.expression_for):
                self.assertEqual(function(machine), function(machine))
            for depth in range(3):
                self.assertEqual(judging.judge(machine, depth), judging.judge(machine, depth))

    def test_arguments_are_not_changed(self):
        for machine in random_machines(54, 20, most=5):
            expression = judging.expression_for(machine)
            found = judging.table(machine, expression)
            paper = judging.judge(machine, 0)
            before = shown([machine, expression, found, paper])
            told = list(found)
            for function in (ranks.rank, ranks.levels, ranks.nest, ranks.least_cuts):
                function(machine)
            ranks.knots(machine, tuple(range(machine.size)))
            for thing in (found, told, paper, ranks.levels(machine), ranks.nest(machine)):
                ranks.levels_hold(machine, thing)
                ranks.nest_holds(machine, thing)
                judging.table_holds(machine, expression, thing)
                judging.judge_holds(machine, 0, thing)
                readings.reading_holds(expression, "a", thing)
            judging.parting_word(machine, expression)
            "ab" in expression
            readings.reading(expression, "ab")
            self.assertEqual(shown([machine, expression, found, paper]), before)
            self.assertEqual(told, list(found))

    def test_errors_that_levels_raise(self):
        told = [1, 0]
        with self.assertRaises(BadLevels) as context:
            judging.expression_for(machine=corridor(2), levels=told)
        self.assertIs(context.exception.levels, told)
        with self.assertRaises(TypeError):
            judging.expression_for(corridor(2), (1, 0))


if __name__ == "__main__":
    unittest.main()
