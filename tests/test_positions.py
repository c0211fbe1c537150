"""Positions and lots: point 7, and the interface's section on positions."""

import itertools
import random
import unittest

from loopsdeep.expressions import Expression
from loopsdeep.positions import is_ending, is_lot, lot_behind, position_letters
from tests.samples import letters_in, odd_values, random_expression, sample_texts, words_within

# Signs that stand for the positions, so that words tell which occurrence of a letter was read.
SIGNS = "0123456789"


class Told:
    """What words show of an expression: where they begin, end and go on.

    A word in which one position stands behind another one is shown with at most twice as many letters as there are
    positions: it need not come to a position twice before, nor twice behind.
    """

    def __init__(self, expression):
        found = words_within(expression, 2 * expression.size, iter(SIGNS))
        self.letters = letters_in(str(expression))
        self.has_empty = "" in found
        self.begins = {int(made[0]) for made in found if made}
        self.ends = {int(made[-1]) for made in found if made}
        self.steps = {(int(p), int(q)) for made in found for p, q in zip(made, made[1:])}

    def is_ending(self, lot):
        return self.has_empty if lot == (-1,) else any(p in self.ends for p in lot)

    def behind(self, lot, letter):
        after = self.begins if lot == (-1,) else {q for p, q in self.steps if p in lot}
        return tuple(q for q in sorted(after) if self.letters[q] == letter)


def lots_of(size):
    return [(-1,)] + [lot for many in range(size + 1) for lot in itertools.combinations(range(size), many)]


def small_expressions():
    rng = random.Random(41)
    made = [random_expression(rng, rng.randint(0, 3)) for _ in range(250)]
    return made + [random_expression(rng, 4) for _ in range(3)] + [
        Expression.read(text) for text in sample_texts() if len(letters_in(text)) < 4]


class LettersTest(unittest.TestCase):

    def test_order_of_the_text(self):
        for text, letters in (("1", ""), ("a", "a"), ("((a b)* | c)?", "abc"), ("(a (a (a b)* b)* b)*", "aaabbb"),
                              ("(z y x)", "zyx"), ("(b | (a b))+", "bab"), ("(1 (1 a) 1)", "a")):
            self.assertEqual(position_letters(Expression.read(text)), letters)
            self.assertEqual(position_letters(expression=Expression.read(text)), letters)

    def test_random_expressions(self):
        rng = random.Random(42)
        for _ in range(200):
            expression = random_expression(rng, rng.randint(0, 40), "abcdefxyz")
            self.assertEqual(position_letters(expression), "".join(letters_in(str(expression))))


class IsLotTest(unittest.TestCase):

    def test_lots(self):
        for text in sample_texts():
            expression = Expression.read(text)
            for lot in lots_of(expression.size):
                self.assertIs(is_lot(expression, lot), True)
                self.assertIs(is_lot(thing=lot, expression=expression), True)

    def test_no_lots(self):
        expression = Expression.read("(a b c)")
        for thing in ((3,), (-2,), (-1, 0), (0, -1), (-1, -1), (1, 0), (0, 0), (0, 1, 1), (0, 1, 2, 3), (True,),
                      (False,), (0, True), (True, 2), ("0",), (None,), ((0,),), ([],), [0], [-1], [], "", "0", 0, -1,
                      {0: 1}, {}, None, True, (0, None), (0, "a"), (10 ** 39,), (-10 ** 39,), (0, [1]), ({},)):
            self.assertIs(is_lot(expression, thing), False)

    def test_of_the_expression_one(self):
        self.assertIs(is_lot(Expression("one"), ()), True)
        self.assertIs(is_lot(Expression("one"), (-1,)), True)
        self.assertIs(is_lot(Expression("one"), (0,)), False)

    def test_any_value(self):
        expression = Expression.read("((a b)* | c)?")
        for value in odd_values():
            self.assertIs(is_lot(expression, value), repr(value) in ("()", "(-1,)", "(0,)", "(0, 1, 2)"))
            self.assertIs(is_lot(expression, (0, value)), type(value) is int and value == 1)
            self.assertIs(is_lot(expression, (value, 2)), type(value) is int and value in (0, 1))

    def test_large_tuples(self):
        expression = Expression.read("(" + " ".join(["a"] * 60) + ")")
        self.assertIs(is_lot(expression, tuple(range(60))), True)
        self.assertIs(is_lot(expression, tuple(range(61))), False)
        self.assertIs(is_lot(expression, tuple(range(5000))), False)


class BehindTest(unittest.TestCase):

    def test_all_lots_of_small_expressions(self):
        for expression in small_expressions():
            told = Told(expression)
            text = str(expression)
            for lot in lots_of(expression.size):
                self.assertIs(is_ending(expression, lot), told.is_ending(lot), (text, lot))
                for letter in "abz":
                    behind = lot_behind(expression, lot, letter)
                    self.assertEqual(behind, told.behind(lot, letter), (text, lot, letter))
                    self.assertIs(is_lot(expression, behind), True)
            self.assertEqual(str(expression), text)

    def test_each_kind(self):
        for text, start, behind, ending in (
                ("1", (), {}, [(-1,)]),
                ("a", (0,), {0: ()}, [(0,)]),
                ("(a a)", (0,), {0: (1,), 1: ()}, [(1,)]),
                ("(a | a)", (0, 1), {0: (), 1: ()}, [(0,), (1,)]),
                ("a*", (0,), {0: (0,)}, [(-1,), (0,)]),
                ("a+", (0,), {0: (0,)}, [(0,)]),
                ("a?", (0,), {0: ()}, [(-1,), (0,)]),
                ("(a? a? a?)", (0, 1, 2), {0: (1, 2), 1: (2,), 2: ()}, [(-1,), (0,), (1,), (2,)]),
                ("(a 1 a)", (0,), {0: (1,), 1: ()}, [(1,)]),
                ("(a* (a | a)+)*", (0, 1, 2), {0: (0, 1, 2), 1: (0, 1, 2), 2: (0, 1, 2)}, [(-1,), (1,), (2,)]),
                ("(a+ (a a)?)+", (0,), {0: (0, 1), 1: (2,), 2: (0,)}, [(0,), (2,)])):
            expression = Expression.read(text)
            self.assertEqual(lot_behind(expression, (-1,), "a"), start)
            for position, lot in behind.items():
                self.assertEqual(lot_behind(expression, (position,), "a"), lot)
                self.assertEqual(lot_behind(expression, (position,), "b"), ())
            for lot in [(-1,)] + [(position,) for position in range(expression.size)]:
                self.assertIs(is_ending(expression, lot), lot in ending)

    def test_empty_lot(self):
        for text in sample_texts():
            expression = Expression.read(text)
            self.assertIs(is_ending(expression, ()), False)
            for letter in "abz":
                self.assertEqual(lot_behind(expression, (), letter), ())

    def test_before_the_first_letter(self):
        for text in sample_texts():
            expression = Expression.read(text)
            self.assertIs(is_ending(expression, (-1,)), "" in expression)

    def test_lots_met_along_words(self):
        rng = random.Random(43)
        for _ in range(60):
            expression = random_expression(rng, rng.randint(1, 9), "ab")
            right = words_within(expression, 8, iter(letters_in(str(expression))))
            for _ in range(20):
                word = "".join(rng.choice("ab") for _ in range(rng.randint(0, 8)))
                lot = (-1,)
                for letter in word:
                    lot = lot_behind(expression, lot, letter)
                    self.assertIs(is_lot(expression, lot), True)
                self.assertIs(is_ending(expression, lot), word in right)

    def test_union_of_positions(self):
        rng = random.Random(44)
        for _ in range(60):
            expression = random_expression(rng, 12, "ab")
            for _ in range(10):
                lot = tuple(sorted(rng.sample(range(12), rng.randint(0, 12))))
                self.assertIs(is_ending(expression, lot), any(is_ending(expression, (p,)) for p in lot))
                for letter in "ab":
                    one_by_one = {q for p in lot for q in lot_behind(expression, (p,), letter)}
                    self.assertEqual(lot_behind(expression, lot, letter), tuple(sorted(one_by_one)))

    def test_row_of_four_rooms(self):
        expression = Expression.read("(a (a (a b)* b)* b)*")
        self.assertEqual(position_letters(expression), "aaabbb")
        self.assertEqual(lot_behind(expression, (-1,), "a"), (0,))
        self.assertEqual(lot_behind(expression, (0,), "a"), (1,))
        self.assertEqual(lot_behind(expression, (0,), "b"), (5,))
        self.assertEqual(lot_behind(expression, (4,), "a"), (1,))
        self.assertEqual(lot_behind(expression, (4,), "b"), (5,))
        self.assertIs(is_ending(expression, (5,)), True)
        self.assertIs(is_ending(expression, (0, 1, 2, 3, 4)), False)

    def test_by_name(self):
        expression = Expression.read("(a b)*")
        self.assertEqual(lot_behind(letter="b", lot=(0,), expression=expression), (1,))
        self.assertIs(is_ending(lot=(1,), expression=expression), True)

    def test_large_expressions(self):
        many = Expression.read("(" + " | ".join(["a"] * 1500) + ")*")
        self.assertEqual(lot_behind(many, (3,), "a"), tuple(range(1500)))
        self.assertEqual(lot_behind(many, tuple(range(1500)), "a"), tuple(range(1500)))
        row = Expression.read("(" + " ".join(["a?"] * 60) + ")+")
        self.assertEqual(lot_behind(row, (57,), "a"), tuple(range(60)))
        deep = Expression.read("(" * 500 + "a" + " a)*" * 500)
        self.assertEqual(position_letters(deep), "a" * 501)
        self.assertEqual(lot_behind(deep, (0,), "a"), (1,))


if __name__ == "__main__":
    unittest.main()
