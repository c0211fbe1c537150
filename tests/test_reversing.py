"""Machines of expressions and witnesses: points 3 and 11, and the interface's section on reversing."""

import itertools
import random
import time
import unittest

from loopsdeep.errors import LoopError, NotReversible
from loopsdeep.expressions import Expression, chosen, joined, letter, one
from loopsdeep.judging import expression_for, judge, parting_word, table
from loopsdeep.machines import Machine
from loopsdeep.makers import all_ways, corridor, ring
from loopsdeep.reversing import machine_of, witness, witness_holds
from tests.references import is_witness, is_word_of, machine_told
from tests.samples import (
    LETTERS, all_words, levels_of_any_kind, made_otherwise, odd_values, random_expression, random_machines,
    sample_machines, sample_texts, shown, told_otherwise)
from tests.test_ranks import STRAIGHT, TWO_RINGS, dense_machines


def expressions(seed, many, most=9):
    rng = random.Random(seed)
    return [Expression.read(text) for text in sample_texts()] + [
        random_expression(rng, rng.randint(0, most), rng.choice(["a", "ab", "abc"])) for _ in range(many)]


def small_machines(seed, many=40):
    return [m for m in sample_machines() if m.size < 6 and len(m.moves) <= 12] + [
        STRAIGHT, TWO_RINGS] + random_machines(seed, many, most=5) + dense_machines(seed, 5, 5, 12)


def row_of(many, sign="a"):
    return joined(*[letter(sign)] * many)


def with_letters(rng, expression, letters):
    return Expression.read("".join(rng.choice(letters) if sign in LETTERS else sign for sign in str(expression)))


class ReversingTest(unittest.TestCase):

    def check(self, expression):
        """The machine of an expression, or None; what machine_of and witness say has to agree."""
        text = str(expression)
        found = witness(expression)
        if found is None:
            machine = machine_of(expression)
            self.assertIsInstance(machine, Machine)
            self.assertEqual(machine.numbered(), machine, text)
            self.assertIsNotNone(table(machine, expression), text)
            self.assertEqual(machine_of(expression=expression), machine)
        else:
            machine = None
            self.assertTrue(is_witness(expression, found), (text, found))
            self.assertIs(witness_holds(expression, found), True)
            with self.assertRaises(NotReversible) as context:
                machine_of(expression)
            self.assertTrue(is_witness(expression, context.exception.witness), text)
        self.assertEqual(witness(expression=expression), found)
        self.assertEqual(str(expression), text)
        return machine


class MachineOfTest(ReversingTest):

    def test_known(self):
        for text, machine in (
                ("1", corridor(1)), ("a*", ring(1)), ("a", Machine(2, 0, 1, ((0, "a", 1),))), ("(a a a)*", ring(3)),
                ("(a b)*", Machine(2, 0, 0, ((0, "a", 1), (1, "b", 0)))), ("1*", corridor(1)), ("(1 | 1)+", corridor(1)),
                ("(a (a (a b)* b)* b)*", corridor(4)), ("(1 | (a ((b a) | (a (a b)* b))* b))", corridor(4)),
                ("(a? a?)*", ring(1)), ("(a+ | 1)", ring(1)), ("((a c) | b)", STRAIGHT),
                ("(b | (a c))", Machine(3, 0, 2, ((0, "a", 1), (0, "b", 2), (1, "c", 2)))),
                ("(z | (b a))", Machine(3, 0, 2, ((0, "b", 1), (0, "z", 2), (1, "a", 2)))),
                ("((a b) | (a c))", Machine(3, 0, 2, ((0, "a", 1), (1, "b", 2), (1, "c", 2)))),
                ("((b a) | (c a))", Machine(3, 0, 2, ((0, "b", 1), (0, "c", 1), (1, "a", 2)))),
                ("((a a) | (b b))", Machine(4, 0, 3, ((0, "a", 1), (0, "b", 2), (1, "a", 3), (2, "b", 3)))),
                ("(a* b a*)", Machine(2, 0, 1, ((0, "a", 0), (0, "b", 1), (1, "a", 1)))),
                ("(b* | (b* a c* (b c*)* a b*)*)", Machine(2, 0, 0, (
                    (0, "a", 1), (0, "b", 0), (1, "a", 0), (1, "b", 1), (1, "c", 1)))),
                ("(a | b | c)*", Machine(1, 0, 0, tuple((0, sign, 0) for sign in "abc")))):
            self.assertEqual(self.check(Expression.read(text)), machine, text)

    def test_expressions_against_the_least_deterministic_machine(self):
        many = {True: 0, False: 0}
        for expression in expressions(201, 800):
            machine = machine_told(expression)
            self.assertEqual(self.check(expression), machine, str(expression))
            many[machine is None] += 1
        self.assertGreater(min(many.values()), 200)

    def test_longer_expressions(self):
        rng = random.Random(202)
        for _ in range(60):
            expression = random_expression(rng, rng.randint(15, 40), rng.choice(["ab", "abcd", LETTERS]))
            self.assertEqual(self.check(expression), machine_told(expression), str(expression))

    def test_put_otherwise(self):
        for machine in small_machines(203):
            expression = expression_for(machine)
            found = machine.numbered()
            others = [expression, expression | expression, expression + one(), one() + expression + one(),
                      chosen(expression, expression_for(found), expression), joined(one(), one().loop(), expression)]
            if machine.first == machine.last:
                others += [expression.loop(), expression.some(), expression.maybe(), expression + expression,
                           (expression | one()).some(), expression.loop().loop(), one() | expression]
            for other in others:
                self.assertEqual(self.check(other), found, str(other))

    def test_rows(self):
        for many in (2, 30, 60, 75):
            machine = self.check(row_of(many))
            self.assertEqual(machine, Machine(many + 1, 0, many, tuple((k, "a", k + 1) for k in range(many))))
            self.assertEqual(self.check(row_of(many).loop()), ring(many))
        row = joined(*[letter(sign) for sign in (LETTERS * 3)[:62]])
        self.assertEqual(len(self.check(row)), 63)
        row = joined(*[letter(sign).loop() for sign in (LETTERS * 3)[:26]])
        self.assertIsNone(self.check(row))

    def test_what_expression_for_returns(self):
        rng = random.Random(204)
        for machine in small_machines(205) + dense_machines(206, 20, 5, 12):
            for told in (None, levels_of_any_kind(rng, machine), levels_of_any_kind(rng, machine)):
                expression = expression_for(machine, levels=told)
                self.assertEqual(machine_of(expression), machine.numbered())
                self.assertEqual(machine_of(expression.backward()), machine.backward().numbered())
                self.assertIsNone(witness(expression))
            paper = judge(machine, 5)
            self.assertEqual(self.check(paper[1]), machine.numbered())

    def test_other_letters_in_what_expression_for_returns(self):
        rng = random.Random(207)
        started = time.process_time()
        many = {True: 0, False: 0}
        for machine in dense_machines(208, 25, 5, 12) + small_machines(209, 10):
            expression = expression_for(machine, levels=levels_of_any_kind(rng, machine))
            for letters in ("a", "ab", "abc", LETTERS):
                other = with_letters(rng, expression, letters)
                for turned in (other, other.backward()):
                    found = witness(turned)
                    many[found is None] += 1
                    if found is not None:
                        self.assertTrue(is_witness(turned, found))
                    elif letters != "ab":
                        self.assertIsNotNone(table(machine_of(turned), turned))
        self.assertGreater(min(many.values()), 20)
        self.assertLess(time.process_time() - started, 60)

    def test_machine_is_the_same_for_the_same_words(self):
        some = [expression for expression in expressions(210, 300, 5) if witness(expression) is None]
        for expression, other in itertools.islice(itertools.combinations(some, 2), 6000):
            machine = machine_of(expression)
            if parting_word(machine, other) is None:
                self.assertEqual(machine_of(other), machine)
            else:
                self.assertNotEqual(machine_of(other), machine)

    def test_many_lots_but_few_states(self):
        behind = " ".join(["(a | b)"] * 26)
        for text in (f"(((a | b)* a {behind}) | (a | b)*)", f"((a | b)* | ((a | b)* a {behind}))"):
            self.assertEqual(machine_of(Expression.read(text)), Machine(1, 0, 0, ((0, "a", 0), (0, "b", 0))))


class WitnessTest(ReversingTest):

    def test_known(self):
        for text in ("(a | (a b))", "a+", "a?", "(a? b?)", "(a* b?)", "(a | (b a))", "(a a)+", "(a b? c)", "(a (a | b)*)",
                     "((a b) | (b a) | (a a))", "(a* | b*)", "(a* | (a b))", "((a a)* | (a a a)*)", "(1 | (a a))",
                     "((a c) | (b c) | (b d))", "((a b c) | (d b e) | (d b c))", "((a | b)* a)", "(a* b* a*)"):
            self.assertIsNone(self.check(Expression.read(text)), text)
        for text in ("1", "a", "(a | b)", "a*", "(a b)*", "(a* b a*)", "((a b) | (b a))", "((a a)* | (a a a a)*)",
                     "(a (b a)*)", "(b | (a c))*", "((a c) | (b c) | (b d) | (a d))"):
            self.assertIsNone(witness(Expression.read(text)), text)

    def test_long_words(self):
        for expression in (
                row_of(29).loop() | row_of(31).loop(), row_of(20) | row_of(40), (row_of(29) | row_of(31)).loop(),
                row_of(58) + letter("a").maybe(), letter("a").maybe() + row_of(58) + letter("b").maybe(),
                joined(letter("c") | letter("d"), row_of(28), letter("e")) | joined(letter("d"), row_of(28), letter("f")),
                row_of(60).some(), row_of(7).loop() | row_of(11).loop() | row_of(13).loop() | row_of(17).loop(),
                joined(row_of(30, "b"), letter("a").loop(), row_of(27, "b"), letter("a").some()),
                (row_of(17) | row_of(19)).loop() + row_of(20, "b").loop()):
            self.assertIsNone(self.check(expression))
            self.assertIsNone(self.check(expression.backward()))

    def test_words_that_have_to_be_long(self):
        middle = row_of(28)
        branches = joined(letter("c"), middle, letter("e")) | joined(letter("d"), middle, letter("f"))
        for expression, least in (
                (row_of(58) + letter("a").maybe(), (58, 58)), (row_of(29).loop() | row_of(30).loop(), (0, 29)),
                (branches | joined(letter("c"), middle, letter("f")), (30, 30)), (row_of(60) | row_of(1), (1, 60))):
            self.assertIsNone(self.check(expression))
            u, v, x, y = witness(expression)
            lengths = sorted([len(u + x), len(u + y), len(v + x)])
            self.assertGreaterEqual((lengths[0], lengths[-1]), least)

    def test_more_lots_than_can_be_met(self):
        started = time.process_time()
        for many in (5, 20, 28):
            behind = " ".join(["(a | b)"] * many)
            for text in (f"((a | b)* a {behind})", f"(b* a {behind} (a | b)*)", f"((a | b)* a {behind} c)*"):
                self.assertIsNone(self.check(Expression.read(text)))
        self.assertLess(time.process_time() - started, 30)

    def test_all_small_expressions(self):
        small = [one(), letter("a"), letter("b")]
        made = [kind for part in small for kind in (part, part.loop(), part.some(), part.maybe())]
        made = [kind for pair in itertools.product(made, repeat=2) for kind in (pair[0] + pair[1], pair[0] | pair[1])]
        for expression in [kind for part in made for kind in (part, part.loop(), part.some(), part.maybe())]:
            self.assertEqual(self.check(expression), machine_told(expression), str(expression))

    def test_backward(self):
        for expression in expressions(221, 300):
            machine, turned = self.check(expression), self.check(expression.backward())
            self.assertIs(machine is None, turned is None)
            if machine is not None:
                self.assertEqual(machine.backward().numbered(), turned)

    def test_changed_expressions_of_machines(self):
        rng = random.Random(222)
        many = {True: 0, False: 0}
        for machine in small_machines(223, 60):
            for _ in range(6):
                expression = made_otherwise(rng, expression_for(machine))
                if isinstance(expression, Expression):
                    many[self.check(expression) is None] += 1
        self.assertGreater(min(many.values()), 40)

    def test_deep_and_broad_texts(self):
        for text in ("a" + "*" * 3999, "(" * 900 + "a" + " b)" * 900, "(a | " * 666 + "1" + ")" * 666,
                     "(" + " | ".join(["a"] * 900) + ")", "(" + " ".join(["a"] * 900) + ")"):
            expression = Expression.read(text)
            found = witness(expression)
            if found is None:
                self.assertEqual(machine_of(expression).numbered(), machine_of(expression))
            else:
                self.assertIs(witness_holds(expression, found), True)


class WitnessHoldsTest(unittest.TestCase):

    def check(self, expression, thing):
        before = shown(thing)
        expected = is_witness(expression, thing)
        self.assertIs(witness_holds(expression, thing), expected, (str(expression), thing))
        self.assertIs(witness_holds(thing=thing, expression=expression), expected)
        self.assertEqual(shown(thing), before)
        return expected

    def test_by_hand(self):
        expression = Expression.read("(a | (a b))")
        right = ("a", "ab", "", "b")
        self.assertTrue(self.check(expression, right))
        for wrong in (("ab", "a", "", "b"), ("a", "ab", "b", ""), ("a", "ab", "", ""), ("a", "a", "", "b"),
                      ("a", "ab", "", "c"), ("b", "ab", "", "b"), ("", "a", "a", "ab"), ("a", "ab", ""), right + ("",),
                      right[:3], (), list(right), [right], (right,), "aabb", None, ("A", "ab", "", "b"),
                      ("a", "aB", "", "b"), ("a", "ab", " ", "b"), ("a", "ab", "", "B"), ("a", "ab", None, "b"),
                      ("a", "ab", (), "b"), ("a", "ab", "", ("b",)), ("a", "ab", 0, "b"), (["a"], "ab", "", "b"),
                      {"a": "ab", "": "b"}, ("1", "ab", "", "b"), ("a", "ab", "", "b\n"), right[::-1],
                      ("a", letter("a"), "", "b")):
            self.assertFalse(self.check(expression, wrong), wrong)
        self.assertTrue(self.check(Expression.read("a+"), ("a", "", "a", "")))
        self.assertTrue(self.check(Expression.read("a+"), ("aaa", "", "aaaa", "")))
        self.assertFalse(self.check(Expression.read("a*"), ("a", "", "a", "")))
        self.assertTrue(self.check(Expression.read("a?"), ("", "a", "", "a")))
        self.assertFalse(self.check(Expression.read("a?"), ("a", "", "", "a")))

    def test_all_short_words(self):
        for text, letters in (("(a | (a b))", "ab"), ("a?", "a"), ("(a a)+", "a"), ("(a b)*", "ab"), ("(a* b?)", "ab")):
            expression = Expression.read(text)
            words = all_words(letters, 2)
            read = {u + x: is_word_of(expression, u + x) for u in words for x in words}
            held = 0
            for u, v, x, y in itertools.product(words, repeat=4):
                expected = read[u + x] and read[u + y] and read[v + x] and not read[v + y]
                self.assertIs(witness_holds(expression, (u, v, x, y)), expected)
                held += expected
            self.assertIs(held == 0, witness(expression) is None)

    def test_changed(self):
        rng = random.Random(231)
        some = [(expression, witness(expression)) for expression in expressions(232, 200)]
        some = [(expression, found) for expression, found in some if found is not None]
        many = {True: 0, False: 0}
        for _ in range(2500):
            expression, thing = rng.choice(some)
            expression = rng.choice([expression, expression, expression, rng.choice(some)[0]])
            how = rng.choice([made_otherwise, told_otherwise])
            for _ in range(rng.choice([0, 1, 1, 1, 2])):
                thing = how(rng, thing)
            many[self.check(expression, thing)] += 1
        self.assertGreater(min(many.values()), 300)

    def test_none_holds_where_a_machine_has_the_words(self):
        rng = random.Random(233)
        for machine in small_machines(234, 20):
            expression = expression_for(machine)
            words = list(itertools.islice(machine.words(most=6), 20)) + ["", "a", "ab"]
            parts = sorted({word[:at] for word in words for at in range(len(word) + 1)}
                           | {word[at:] for word in words for at in range(len(word) + 1)})
            for _ in range(60):
                self.assertFalse(self.check(expression, tuple(rng.choice(parts) for _ in range(4))))

    def test_any_value(self):
        for expression in (Expression.read("a?"), Expression.read("(a b)*"), one()):
            for thing in odd_values():
                for value in (thing, (thing,) * 4, ("", "a", "", thing), (thing, "a", "", "a"), ("", thing, "", "a"),
                              ("", "a", thing, "a"), [thing] * 4, (thing, thing), ("", "a", "", "a", thing)):
                    self.check(expression, value)

    def test_long_words(self):
        expression = letter("a").maybe()
        self.assertIs(witness_holds(expression, ("", "a", "", "a")), True)
        self.assertIs(witness_holds(letter("a").some(), ("a" * 4000, "", "a" * 4000, "")), True)
        self.assertIs(witness_holds(letter("a").loop(), ("a" * 4000, "", "a" * 4000, "b" * 4000)), False)

    def test_errors_are_of_this_package(self):
        with self.assertRaises(LoopError):
            machine_of(Expression.read("a+"))
        self.assertIs(all_ways(4).is_same(machine_of(expression_for(all_ways(4)))), True)


if __name__ == "__main__":
    unittest.main()
