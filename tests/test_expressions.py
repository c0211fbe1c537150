"""Expressions: point 6, and the interface's section on expressions."""

import random
import unittest

from loopsdeep.errors import BadExpression, BadText
from loopsdeep.expressions import Expression, chosen, joined, letter, one
from loopsdeep.makers import ring
from tests.references import is_word_of, word_read
from tests.samples import (
    LETTERS, all_words, letters_in, made_otherwise, odd_values, random_expression, reading_by_hand, sample_texts,
    shown, words_within)

KINDS = ("one", "letter", "row", "choice", "loop", "some", "maybe")
A, B, C = letter("a"), letter("b"), letter("c")

# For each rule what it begins with, as strings of signs and of the rules' names (capitals).
GRAMMAR = {
    "E": ["1", "l", "(ER)", "(EC)", "E*", "E+", "E?"],
    "R": [" E", " ER"],
    "C": [" | E", " | EC"],
}


def first_wrong_place(text):
    """Where no text of an expression goes on as a text does, found by Earley's algorithm; None if it is a text."""
    sets = [[("S", "E", 0, 0)]]
    for place in range(len(text) + 1):
        items = sets[place]
        for item in items:
            name, right, dot, begin = item
            if dot == len(right):
                more = [(n, r, d + 1, b) for n, r, d, b in sets[begin] if d < len(r) and r[d] == name]
            elif right[dot] in GRAMMAR:
                more = [(right[dot], r, 0, place) for r in GRAMMAR[right[dot]]]
            else:
                more = []
            items.extend(entry for entry in more if entry not in items)
        if place == len(text):
            return None if ("S", "E", 1, 0) in items else place
        sign = "l" if text[place] in list(LETTERS) else text[place]
        after = [(n, r, d + 1, b) for n, r, d, b in items if d < len(r) and r[d] == sign and r[d] not in GRAMMAR]
        if not after:
            return place
        sets.append(after)
    return None


def text_of(expression):
    kind, parts = expression.kind, expression.parts
    if kind == "one":
        return "1"
    if kind == "letter":
        return parts[0]
    inner = [text_of(part) for part in parts]
    if kind == "row":
        return "(" + " ".join(inner) + ")"
    if kind == "choice":
        return "(" + " | ".join(inner) + ")"
    return inner[0] + {"loop": "*", "some": "+", "maybe": "?"}[kind]


def depth_of(expression):
    if expression.kind == "letter":
        return 0
    return max([depth_of(part) for part in expression.parts] + [0]) + (expression.kind in ("loop", "some"))


def expected_part(kind, parts):
    """The part that is not as described, in a list, or an empty list; worked out from the words of the interface."""
    least = {"one": 0, "letter": 1, "row": 2, "choice": 2, "loop": 1, "some": 1, "maybe": 1}
    if type(kind) is not str or kind not in least:
        return ["kind"]
    if type(parts) is not tuple or len(parts) < least[kind]:
        return ["parts"]
    if len(parts) > least[kind] and kind not in ("row", "choice"):
        return ["parts"]
    for part in parts:
        if kind == "letter" and not (type(part) is str and part in list(LETTERS)):
            return [part]
        if kind != "letter" and not isinstance(part, Expression):
            return [part]
    return []


def deep_expression(rng, operators):
    """An expression with so many operators within one another and two to three times as many letters."""
    made = letter(rng.choice(LETTERS))
    for _ in range(operators):
        more = random_expression(rng, rng.randint(2, 3), LETTERS)
        kind = rng.choice(["row", "row", "choice", "loop", "some", "maybe"])
        pair = (made, more) if rng.random() < 0.5 else (more, made)
        made = Expression(kind, pair if kind in ("row", "choice") else (made + more,))
    return made


def samples(seed=31, many=150):
    rng = random.Random(seed)
    return [Expression.read(text) for text in sample_texts()] + [
        random_expression(rng, rng.randint(0, 8), "abc") for _ in range(many)]


class PartsTest(unittest.TestCase):

    def refuses(self, part, *parts):
        with self.assertRaises(BadExpression) as context:
            Expression(*parts)
        self.assertIs(context.exception.part, part)

    def refuses_word(self, word, *parts):
        with self.assertRaises(BadExpression) as context:
            Expression(*parts)
        self.assertEqual((type(context.exception.part), context.exception.part), (str, word))

    def test_kind(self):
        for kind in odd_values() + ["One", "rows", "loop ", "", "*", "onetwo", "o"]:
            if kind not in ("one", "loop"):
                for parts in ((), (A,), (A, B), None, ("a",)):
                    self.refuses_word("kind", kind, parts)

    def test_number_of_parts(self):
        right = {"one": [0], "letter": [1], "row": [2, 3, 4], "choice": [2, 3, 4], "loop": [1], "some": [1],
                 "maybe": [1]}
        for kind in KINDS:
            for many in range(5):
                parts = ("a",) * many if kind == "letter" else (A,) * many
                if many in right[kind]:
                    self.assertIs(Expression(kind, parts).parts, parts)
                else:
                    self.refuses_word("parts", kind, parts)
                    self.refuses_word("parts", kind, (None,) * many)
                self.refuses_word("parts", kind, list(parts))

    def test_parts_are_no_tuple(self):
        for kind in KINDS:
            for parts in odd_values():
                if not isinstance(parts, tuple):
                    self.refuses_word("parts", kind, parts)

    def test_parts_left_out(self):
        self.assertEqual(Expression("one").parts, ())
        self.refuses_word("parts", "letter")
        self.refuses_word("parts", "row")

    def test_letter(self):
        for sign in odd_values():
            if sign not in ("a", "z"):
                self.refuses(sign, "letter", (sign,))
        for sign in LETTERS:
            self.assertEqual(Expression("letter", (sign,)).parts, (sign,))
        self.refuses(A, "letter", (A,))

    def test_part_that_is_no_expression(self):
        for value in odd_values():
            if not isinstance(value, Expression):
                for kind in ("loop", "some", "maybe"):
                    self.refuses(value, kind, (value,))
                for kind in ("row", "choice"):
                    self.refuses(value, kind, (A, value))
                    self.refuses(value, kind, (value, A))
                    self.refuses(value, kind, (A, A, value, None, B))

    def test_expressions_made_otherwise(self):
        rng = random.Random(34)
        many = {True: 0, False: 0}
        expressions = samples(many=60)
        for _ in range(6000):
            expression = rng.choice(expressions)
            parts = (expression.kind, expression.parts)
            for _ in range(rng.choice([1, 1, 1, 2, 3])):
                parts = made_otherwise(rng, tuple(parts))
            if len(parts) != 2:
                continue
            before = shown(parts)
            expected = expected_part(*parts)
            many[expected == []] += 1
            if not expected:
                made = Expression(*parts)
                self.assertIs(made.kind, parts[0])
                self.assertIs(made.parts, parts[1])
            elif expected[0] in ("kind", "parts"):
                self.refuses_word(expected[0], *parts)
            else:
                self.refuses(expected[0], *parts)
            self.assertEqual(shown(parts), before)
        self.assertGreater(min(many.values()), 300)

    def test_several_things_wrong(self):
        self.refuses_word("kind", "rows", [None])
        self.refuses_word("kind", None, None)
        self.refuses_word("kind", True, ())
        self.refuses_word("parts", "row", (None,))
        self.refuses_word("parts", "letter", ("A", "B"))
        self.refuses_word("parts", "row", [None, None])
        wrong = [A]
        self.refuses(wrong, "row", (A, wrong, None, "a"))

    def test_by_name(self):
        self.assertEqual(Expression(parts=("a",), kind="letter"), A)
        self.assertEqual(Expression(kind="one"), one())

    def test_attributes(self):
        for expression in samples():
            again = Expression(expression.kind, expression.parts)
            self.assertIs(again.kind, expression.kind)
            self.assertIs(again.parts, expression.parts)
            text = text_of(expression)
            self.assertEqual(expression.depth, depth_of(expression))
            self.assertEqual(expression.size, len(letters_in(text)))
            self.assertEqual(expression.letters, "".join(sorted(set(letters_in(text)))))

    def test_depth(self):
        for text, depth in (("1", 0), ("a", 0), ("a?", 0), ("a*", 1), ("a+", 1), ("a+*?", 2), ("(a* | b+)*", 2),
                            ("(a (a (a b)* b)* b)*", 3), ("(a** b)", 2), ("((a b)* | c)?", 1), ("1*", 1)):
            self.assertEqual(Expression.read(text).depth, depth)


class EqualityTest(unittest.TestCase):

    def test_same_text(self):
        expressions = samples(many=40)
        for first in expressions:
            for second in expressions:
                self.assertIs(first == second, text_of(first) == text_of(second))
                self.assertIs(first != second, text_of(first) != text_of(second))

    def test_same_words_are_not_enough(self):
        self.assertFalse(Expression.read("((a b) c)") == Expression.read("(a b c)"))
        self.assertFalse(Expression.read("a**") == Expression.read("a*"))
        self.assertFalse(one() == Expression("loop", (one(),)))

    def test_equal_to_no_other_value(self):
        for value in odd_values() + ["1", "a"]:
            if not isinstance(value, Expression):
                self.assertIs(A == value, False)
                self.assertIs(value == A, False)
                self.assertIs(one() == value, False)


class TextTest(unittest.TestCase):

    def refuses(self, place, text):
        with self.assertRaises(BadText) as context:
            Expression.read(text)
        self.assertEqual((type(context.exception.place), context.exception.place), (int, place))

    def test_texts(self):
        self.assertEqual(str(one()), "1")
        self.assertEqual(str(A), "a")
        self.assertEqual(str(Expression("row", (A, B, C))), "(a b c)")
        self.assertEqual(str(Expression("choice", (A, B, C))), "(a | b | c)")
        self.assertEqual(str(Expression("maybe", (chosen((A + B).loop(), C),))), "((a b)* | c)?")
        for expression in samples():
            self.assertEqual(str(expression), text_of(expression))

    def test_read_again(self):
        for expression in samples():
            again = Expression.read(str(expression))
            self.assertEqual(text_of(again), text_of(expression))
            self.assertEqual((again.kind, again.depth, again.size, again.letters), (
                expression.kind, expression.depth, expression.size, expression.letters))
            self.assertEqual(Expression.read(text=str(expression)), expression)

    def test_parts_of_what_is_read(self):
        expression = Expression.read("((a b)* | c)?")
        self.assertEqual((expression.kind, len(expression.parts)), ("maybe", 1))
        choice = expression.parts[0]
        self.assertEqual((choice.kind, [str(part) for part in choice.parts]), ("choice", ["(a b)*", "c"]))
        self.assertEqual(choice.parts[1].parts, ("c",))
        self.assertEqual(Expression.read("1").parts, ())

    def test_no_string(self):
        for value in odd_values():
            if not isinstance(value, str):
                self.refuses(-1, value)

    def test_first_wrong_sign(self):
        for text, place in (
                ("", 0), (" ", 0), ("A", 0), ("0", 0), ("*", 0), (")", 0), ("|", 0), ("a b", 1), ("ab", 1), ("a|b", 1),
                ("1a", 1), ("11", 1), ("a)", 1), ("a\n", 1), ("a ", 1), ("(", 1), ("()", 1), ("( a", 1), ("(a", 2),
                ("(a)", 2), ("(a)*", 2), ("(a ", 3), ("(a )", 3), ("(a  b)", 3), ("(a b", 4), ("(a b c", 6),
                ("(a b | c)", 5), ("(a | b c)", 7), ("(a |b)", 4), ("(a | b", 6), ("(a | )", 5), ("(a || b)", 4),
                ("(a | b |c)", 8), ("(a | b| c)", 6), ("(a b)c", 5), ("(a b))", 5), ("((a b)", 6), ("(a b )", 5),
                ("(a* b+ c?", 9), ("(a | b  ", 7), ("(a\tb)", 2), ("{", 0), ("`", 0), ("(a * b)", 3), ("(a b\n", 4)):
            self.assertEqual(first_wrong_place(text), place)
            self.refuses(place, text)

    def test_every_short_text(self):
        begins = [""]
        for _ in range(6):
            texts = [text + sign for text in begins for sign in "1z(|) *A"]
            for text in texts:
                self.check(text)
            # What went wrong goes wrong alike whatever stands behind it, so nothing is put there.
            begins = [text for text in texts if first_wrong_place(text) in (None, len(text))]
        self.assertIn("(1 z)*", begins)

    def test_texts_with_changes(self):
        rng = random.Random(33)
        expressions = samples()
        for _ in range(2500):
            text = str(rng.choice(expressions))
            for _ in range(rng.choice([1, 1, 2, 3])):
                at, sign = rng.randrange(len(text) + 1), rng.choice("1abz((|)) *+?A")
                text = rng.choice([text[:at] + text[at + 1:], text[:at] + sign + text[at:], text[:at],
                                   text[:at] + sign + text[at + 1:], text + text[at:]])
            self.check(text)

    def check(self, text):
        place = first_wrong_place(text)
        if place is None:
            self.assertEqual(text_of(Expression.read(text)), text)
        else:
            self.refuses(place, text)

    def test_long_texts(self):
        for text in ("a" + "*" * 3999, "a" + "?+" * 1999, "(" * 999 + "a" + " b)" * 999, "(a | " * 666 + "1" + ")" * 666,
                     "(" + "a " * 1998 + "b)", "(" + "1 | " * 998 + "b)", "1" + "?" * 20000):
            expression = Expression.read(text)
            self.assertEqual(str(expression), text)
            self.assertTrue(expression == Expression.read(text))
            self.assertFalse(expression == Expression.read(text + "*"))
        self.refuses(4000, "(" * 4000)
        self.refuses(4000, "a" + "*" * 3999 + ")")
        self.assertEqual(Expression.read("a" + "*" * 3999).depth, 3999)


class WordTest(unittest.TestCase):

    def test_words(self):
        words = all_words("abc", 5)
        for expression in samples(many=60):
            right = words_within(expression, 5, iter(letters_in(str(expression))))
            for word in words:
                self.assertIs(word in expression, word in right)

    def test_each_kind(self):
        for text, words, others in (
                ("1", [""], ["a", "1"]), ("a", ["a"], ["", "aa", "b"]), ("(a b)", ["ab"], ["", "a", "ba", "abb"]),
                ("(a | b)", ["a", "b"], ["", "ab"]), ("a*", ["", "a", "aaa"], ["b", "ab"]),
                ("a+", ["a", "aaa"], ["", "b"]), ("a?", ["", "a"], ["aa"]), ("a?+", ["", "a", "aaa"], ["b"])):
            for word in words:
                self.assertIs(word in Expression.read(text), True)
            for word in others:
                self.assertIs(word in Expression.read(text), False)

    def test_any_value(self):
        for value in odd_values():
            if not isinstance(value, str):
                self.assertIs(value in one(), False)
                self.assertIs(value in A.loop(), False)
        for value in ("A", "a\n", "a a", "(a b)", "a" * 3999 + "{"):
            self.assertIs(value in A.loop(), False)
        self.assertIs("a" * 4000 in A.loop(), True)

    def test_long_words(self):
        expression = Expression.read("(a (a (a b)* b)* b)*")
        self.assertTrue("ab" * 100 in expression)
        self.assertTrue("aababb" * 60 in expression)
        self.assertFalse("ab" * 100 + "aaaabbbb" in expression)
        self.assertTrue("a" * 40 in Expression.read("(" + " ".join(["a?"] * 60) + ")"))
        self.assertFalse("a" * 61 in Expression.read("(" + " ".join(["a?"] * 60) + ")"))


    def check_words(self, rng, expression, words):
        """Compares words and words near to them with the paths of the expression; returns how many are words."""
        found = 0
        for word in words:
            at = rng.randrange(len(word) + 1)
            for near in (word, word[:at] + rng.choice(["", *LETTERS]) + word[at + 1:]):
                expected = is_word_of(expression, near)
                self.assertIs(near in expression, expected)
                found += expected
        return found

    def test_twenty_operators_within_one_another(self):
        rng = random.Random(35)
        found = 0
        for _ in range(60):
            expression = deep_expression(rng, 20)
            words = [word_read(expression, reading_by_hand(rng, expression, 2)) for _ in range(6)]
            found += self.check_words(rng, expression, [word for word in words if len(word) <= 200])
        self.assertTrue(250 < found < 500, found)

    def test_sixty_letters_and_words_of_two_hundred(self):
        rng = random.Random(36)
        found = 0
        for _ in range(20):
            inner = random_expression(rng, 60, LETTERS[:12])
            word = ""
            while len(word) < 150:
                word += word_read(inner, reading_by_hand(rng, inner, 2)) or "a"
            found += self.check_words(rng, inner.loop(), [word[:200], word[:-1], word[1:]])
        self.assertTrue(20 < found < 100, found)

    def test_loops_within_loops(self):
        for text, words, others in (
                ("((a b)* | c)+", ["", "ab", "abcab", "cc"], ["a", "ba", "abca"]),
                ("((a+ b)+ c)+", ["abc", "aabababc" * 20, "abcaabc"], ["", "ac", "abcb", "ab"]),
                ("((a* b)* (b* a)*)+", ["", "a" * 200, "ab" * 100, "bbbaaab"], ["c", "abc"]),
                ("(a (b (c d*)* b)* a)*", ["", "aa", "abba", "abcddcdba" * 20], ["a", "ab", "aba", "abcba a"])):
            expression = Expression.read(text)
            for word in words:
                self.assertIs(word in expression, True)
                self.assertIs(is_word_of(expression, word), True)
            for word in others:
                self.assertIs(word in expression, False)


class MadeTest(unittest.TestCase):

    def test_row_of_both(self):
        self.assertEqual(str(A + B), "(a b)")
        self.assertEqual(str(A + B + C), "((a b) c)")
        self.assertEqual(str(A + (B + C)), "(a (b c))")
        self.assertEqual(str((A | B) + C), "((a | b) c)")
        self.assertEqual([str(part) for part in ((A + B) + (B + C)).parts], ["(a b)", "(b c)"])
        self.assertEqual([str(part) for part in ((A | B) | (B | C)).parts], ["(a | b)", "(b | c)"])

    def test_choice_of_both(self):
        self.assertEqual(str(A | B), "(a | b)")
        self.assertEqual(str(A | B | C), "((a | b) | c)")
        self.assertEqual(str(A | (B | C)), "(a | (b | c))")
        self.assertEqual(str(A + B | C), "((a b) | c)")

    def test_loops(self):
        self.assertEqual([str(made) for made in (A.loop(), A.some(), A.maybe())], ["a*", "a+", "a?"])
        self.assertEqual(str((A + B).loop().maybe().some()), "(a b)*?+")
        self.assertEqual([A.loop().kind, A.some().kind, A.maybe().kind], ["loop", "some", "maybe"])

    def test_one_and_letter(self):
        self.assertEqual((one().kind, one().parts), ("one", ()))
        for sign in LETTERS:
            self.assertEqual((letter(sign).kind, letter(sign=sign).parts), ("letter", (sign,)))

    def test_joined_and_chosen(self):
        for made in (joined, chosen):
            self.assertIs(made(A), A)
            pair = A + B
            self.assertIs(made(pair), pair)
        self.assertEqual(str(joined(A, B)), "(a b)")
        self.assertEqual(str(joined(A, B + C, A)), "(a (b c) a)")
        self.assertEqual(str(joined(A + B, B + C)), "((a b) (b c))")
        self.assertEqual(str(chosen(A, B)), "(a | b)")
        self.assertEqual(str(chosen(A, B | C, A)), "(a | (b | c) | a)")
        self.assertIsInstance(joined(A, B, C).parts, tuple)

    def test_backward(self):
        for text, backward in (
                ("(a b c)", "(c b a)"), ("(a | b)", "(a | b)"), ("1", "1"), ("a", "a"), ("(a b)*", "(b a)*"),
                ("((a b)+ (c | (d e))? f)", "(f (c | (e d))? (b a)+)"), ("(a (b (c d)))", "(((d c) b) a)")):
            self.assertEqual(str(Expression.read(text).backward()), backward)
        words = all_words("abc", 4)
        for expression in samples(many=60):
            text = str(expression)
            backward = expression.backward()
            self.assertEqual(backward.backward(), expression)
            self.assertEqual(str(expression), text)
            self.assertEqual((backward.depth, backward.size, backward.letters), (
                expression.depth, expression.size, expression.letters))
            for word in words:
                self.assertIs(word[::-1] in backward, word in expression)

    def test_with_no_expression(self):
        for value in odd_values():
            if not isinstance(value, Expression):
                with self.assertRaises(TypeError):
                    A + value
                with self.assertRaises(TypeError):
                    A | value
        with self.assertRaises(TypeError):
            A + ring(1)


if __name__ == "__main__":
    unittest.main()
