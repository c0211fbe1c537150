"""Readings: point 12, and the interface's section on readings."""

import random
import unittest

from loopsdeep.expressions import Expression, joined, letter, one
from loopsdeep.judging import expression_for
from loopsdeep.makers import all_ways, corridor
from loopsdeep.readings import reading, reading_holds, rounds_of
from tests.references import rounds_told, word_read
from tests.samples import (
    all_words, letters_in, made_otherwise, odd_values, random_expression, random_machines, reading_by_hand,
    sample_texts, shown, words_within)


def samples(seed, many, most=8, letters="ab"):
    rng = random.Random(seed)
    return [Expression.read(text) for text in sample_texts()] + [
        random_expression(rng, rng.randint(0, most), letters) for _ in range(many)]


class ReadingTest(unittest.TestCase):

    def check(self, expression, word):
        text = str(expression)
        found = reading(expression, word)
        self.assertEqual(word_read(expression, found), word, (text, found))
        self.assertIs(reading_holds(expression, word, found), True)
        self.assertEqual(rounds_of(expression, found), rounds_told(expression, found))
        self.assertEqual(reading(word=word, expression=expression), found)
        self.assertEqual(str(expression), text)
        return found

    def test_all_short_words(self):
        for expression in samples(61, 150):
            words = all_words(set("a" + expression.letters), 5)
            right = words_within(expression, 5, iter(letters_in(str(expression))))
            for word in words if len(words) < 2000 else right:
                if word in right:
                    self.check(expression, word)
                else:
                    self.assertIsNone(reading(expression, word))

    def test_each_kind(self):
        for text, word, found in (
                ("1", "", ()), ("a", "a", "a"), ("(a b)", "ab", ("a", "b")), ("(a 1 b)", "ab", ("a", (), "b")),
                ("(a | b)", "b", (1, "b")), ("(1 | a)", "", (0, ())), ("a*", "", ()), ("a*", "aa", ("a", "a")),
                ("a+", "a", ("a",)), ("a+", "aaa", ("a", "a", "a")), ("a?", "", ()), ("a?", "a", ("a",)),
                ("((a b)* | c)?", "abab", ((0, (("a", "b"), ("a", "b"))),)), ("((a b)* | c)?", "c", ((1, "c"),)),
                ("(a | b)*", "ab", ((0, "a"), (1, "b"))), ("(a (b | c)+)", "abc", ("a", ((0, "b"), (1, "c")))),
                ("((a b) c)", "abc", (("a", "b"), "c")), ("(a? b)", "b", ((), "b")), ("(a? b)", "ab", (("a",), "b"))):
            self.assertEqual(self.check(Expression.read(text), word), found)

    def test_no_word_of_the_expression(self):
        for text, word in (("1", "a"), ("a", ""), ("a", "b"), ("a", "aa"), ("(a b)", "a"), ("(a b)", "ba"), ("a+", ""),
                           ("(a | b)", "ab"), ("a?", "aa"), ("(a b)*", "aba"), ("(a a)+", "aaa"), ("a*", "az")):
            self.assertIsNone(reading(Expression.read(text), word))

    def test_parts_that_read_the_empty_word(self):
        for text in ("1+", "1*+", "a?+", "(1 | a)+", "(a* b*)+", "(a?+ | b)+", "((a | 1)+ (b | 1)+)+", "(b | a*)",
                     "(b | (a? 1))?", "1?", "(1 1)", "((1 | a)+ 1?)*"):
            expression = Expression.read(text)
            for word in ("", "a", "aa", "b"):
                if word in expression:
                    self.check(expression, word)
                else:
                    self.assertIsNone(reading(expression, word))
        self.assertIsNotNone(reading(Expression.read("(a?+ | b)+"), ""))

    def test_loops_of_loops(self):
        for text in ("a**", "a*+", "a+*", "(a* b*)*", "((a+ b?)+ c?)+", "((a | b)* | (b a)+)*", "(a (a (a b)* b)* b)*",
                     "((a b)+ | a)+*", "(a? a* a+)+"):
            expression = Expression.read(text)
            for word in all_words(expression.letters, 6):
                if word in expression:
                    self.check(expression, word)

    def test_long_words(self):
        for text, word in (
                ("(a b)*", "ab" * 100), ("(a (a (a b)* b)* b)*", "aababb" * 33 + "ab"), ("(a | b)+", "abb" * 66),
                ("(" + " ".join(["a?"] * 60) + ")*", "a" * 200), ("(" + " | ".join(["a"] * 60) + ")*+", "a" * 200),
                ("a" + "*+?*+" * 4, "a" * 200), ("((a | (b c))* | (b (c a)*)+)*", "abcabcbca" * 22),
                ("(" + " ".join(["a"] * 60) + ")+", "a" * 180)):
            self.check(Expression.read(text), word)
        self.assertIsNone(reading(Expression.read("(a b)*"), "ab" * 99 + "a"))
        self.assertIsNone(reading(Expression.read("(" + " ".join(["a?"] * 60) + ")"), "a" * 61))

    def test_twenty_operators_within_one_another(self):
        expression = letter("a")
        for level in range(10):
            expression = (expression | letter("b").maybe()) if level % 2 else (letter("b") + expression).loop()
        for word in ("", "b", "bb", "bbb", "b" * 5 + "a", "b" * 180, "bbbbbabbbb"):
            if word in expression:
                self.check(expression, word)
            else:
                self.assertIsNone(reading(expression, word))

    def test_expressions_of_sixty_letters(self):
        rng = random.Random(62)
        for _ in range(30):
            expression = random_expression(rng, 60, "ab").loop()
            word = ""
            while len(word) < 120:
                told = word_read(expression.parts[0], reading_by_hand(rng, expression.parts[0]))
                if len(word + told) > 200:
                    break
                word += told + rng.choice("ab") * rng.randrange(2)
            self.assertIs(reading(expression, word) is not None, word in expression)
            if word in expression:
                self.check(expression, word)

    def test_what_the_package_returned(self):
        for machine in [corridor(5), all_ways(4)] + random_machines(63, 20, most=5):
            expression = expression_for(machine)
            for word in machine.words(most=4):
                self.check(expression, word)
            self.assertIsNone(reading(expression, "z"))

    def test_same_object_in_several_places(self):
        part = Expression.read("(a | b)*")
        expression = joined(part, letter("c"), part, part.maybe())
        for word in ("c", "abcba", "ca", "bc"):
            self.check(expression, word)


class HoldsTest(unittest.TestCase):

    def test_readings_by_hand(self):
        rng = random.Random(64)
        for expression in samples(65, 80):
            for _ in range(8):
                told = reading_by_hand(rng, expression)
                word = word_read(expression, told)
                self.assertIs(reading_holds(expression, word, told), True)
                self.assertIs(reading_holds(thing=told, word=word, expression=expression), True)
                for other in (word + "a", "b" + word, word[1:], word[:-1], word[::-1]):
                    self.assertIs(reading_holds(expression, other, told), other == word)

    def test_empty_rounds(self):
        expression = Expression.read("a?*")
        for told in ((), ((),), (("a",),), ((), ("a",)), (("a",), ()), ((), (), ("a",), ())):
            self.assertIs(reading_holds(expression, "a" if ("a",) in told else "", told), True)
        self.assertIs(reading_holds(Expression.read("1+"), "", ((), (), ())), True)
        self.assertIs(reading_holds(Expression.read("1+"), "", ()), False)
        self.assertIs(reading_holds(Expression.read("a+?"), "", ((),)), False)
        self.assertIs(reading_holds(Expression.read("a*?"), "", ((),)), True)

    def test_changed_readings(self):
        rng = random.Random(66)
        many = {True: 0, False: 0}
        for expression in samples(67, 60):
            for _ in range(40):
                told = reading_by_hand(rng, expression)
                word = word_read(expression, told)
                for _ in range(rng.choice([1, 1, 1, 2, 3])):
                    told = made_otherwise(rng, told)
                before = shown(told)
                now = word_read(expression, told)
                self.assertIs(reading_holds(expression, word, told), now == word, (str(expression), told))
                self.assertEqual(shown(told), before)
                many[now == word] += 1
                if now is not None:
                    self.assertIs(reading_holds(expression, now, told), True)
        self.assertGreater(min(many.values()), 20)

    def test_wrong_in_one_thing(self):
        expression = Expression.read("((a | b)+ c (a 1)? d*)")
        right = (((0, "a"), (1, "b")), "c", (("a", ()),), ())
        self.assertIs(reading_holds(expression, "abca", right), True)
        rounds, sign, maybe, loop = right
        for wrong in (
                list(right), right[:-1], right + ((),), right[::-1], (rounds, sign, loop), ((), sign, maybe, loop),
                (list(rounds), sign, maybe, loop), (((0, "a"), [1, "b"]), sign, maybe, loop),
                (((False, "a"), (1, "b")), sign, maybe, loop), (((0, "a"), (True, "b")), sign, maybe, loop),
                (((0, "a"), (2, "b")), sign, maybe, loop), (((0, "a"), (-1, "b")), sign, maybe, loop),
                (((0, "a"), (0, "b")), sign, maybe, loop), (((0, "a"), ("1", "b")), sign, maybe, loop),
                (((0, "a"), (1,)), sign, maybe, loop), (((0, "a"), (1, "b", ())), sign, maybe, loop),
                (((1, "b"), (0, "a")), sign, maybe, loop), (((0, "a"),), sign, maybe, loop),
                (rounds, "d", maybe, loop), (rounds, ("c",), maybe, loop), (rounds, "", maybe, loop),
                (rounds, letter("c"), maybe, loop), (rounds, None, maybe, loop), (rounds, sign, maybe * 2, loop),
                (rounds, sign, ("a", ()), loop), (rounds, sign, (), loop), (rounds, sign, (("a",),), loop),
                (rounds, sign, (("a", one()),), loop), (rounds, sign, maybe, ("d",)), (rounds, sign, maybe, []),
                (rounds, sign, maybe, ""), (rounds, sign, maybe, None), (rounds, sign, maybe, ((),))):
            self.assertIs(reading_holds(expression, "abca", wrong), False, wrong)
        for word in ("", "abc", "abcad", "bbca", "abcA"):
            self.assertIs(reading_holds(expression, word, right), False)

    def test_any_value(self):
        for expression in samples(68, 10):
            for value in odd_values():
                for word in ("", "a", "ab"):
                    self.assertIs(reading_holds(expression, word, value), word_read(expression, value) == word)
                    self.assertIs(reading_holds(expression.maybe(), word, (value,)),
                                  word_read(expression, value) == word)

    def test_wide_and_deep_values(self):
        expression = Expression.read("(a | b)*")
        self.assertIs(reading_holds(expression, "a" * 2000, ((0, "a"),) * 2000), True)
        self.assertIs(reading_holds(expression, "a" * 2000, ((0, "a"),) * 1999), False)
        deep = Expression.read("a" + "?" * 900)
        told = "a"
        for _ in range(900):
            told = (told,)
        self.assertIs(reading_holds(deep, "a", told), True)
        self.assertIs(reading_holds(deep, "a", (told,)), False)
        self.assertIs(reading_holds(deep, "", ()), True)


class RoundsTest(unittest.TestCase):

    def test_readings_by_hand(self):
        rng = random.Random(69)
        for expression in samples(70, 80):
            for _ in range(8):
                told = reading_by_hand(rng, expression)
                self.assertEqual(rounds_of(expression, told), rounds_told(expression, told))
                self.assertEqual(rounds_of(reading=told, expression=expression), rounds_told(expression, told))

    def test_none(self):
        for text, told in (("1", ()), ("a", "a"), ("(a b)", ("a", "b")), ("(a | b*)", (0, "a")), ("a*?", ()),
                           ("(a? b)", (("a",), "b")), ("a*", ()), ("(a* b)", ((), "b"))):
            self.assertEqual(rounds_of(Expression.read(text), told), 0)

    def test_each_time_counts_by_itself(self):
        expression = Expression.read("(a* b)*")
        self.assertEqual(rounds_of(expression, (((), "b"), (("a",), "b"), (("a", "a"), "b"))), 3)
        self.assertEqual(rounds_of(expression, ((("a", "a"), "b"), (("a", "a"), "b"))), 2)
        self.assertEqual(rounds_of(expression, ((("a",) * 5, "b"), (("a",), "b"))), 5)
        self.assertEqual(rounds_of(Expression.read("(a+ a*)"), (("a",) * 3, ("a",) * 2)), 3)
        self.assertEqual(rounds_of(Expression.read("1+"), ((), (), ())), 3)

    def test_two_hundred_rounds(self):
        self.assertEqual(rounds_of(Expression.read("a*"), ("a",) * 200), 200)
        self.assertEqual(rounds_of(Expression.read("(b | a+?)"), (1, (("a",) * 200,))), 200)
        expression = Expression.read("(a b)*")
        self.assertEqual(rounds_of(expression, reading(expression, "ab" * 100)), 100)
        self.assertEqual(rounds_of(Expression.read("a+"), reading(Expression.read("a+"), "a" * 200)), 200)


if __name__ == "__main__":
    unittest.main()
