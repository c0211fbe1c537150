"""Findings: point 15, and the interface's section on findings."""

import random
import unittest

from loopsdeep.expressions import Expression, letter, one
from loopsdeep.findings import finding_holds
from loopsdeep.judging import expression_for, judge, parting_word, table
from loopsdeep.makers import corridor, ring
from loopsdeep.ranks import levels, nest, rank
from loopsdeep.readings import reading
from loopsdeep.reversing import witness
from tests.references import is_finding
from tests.samples import (
    levels_of_any_kind, made_otherwise, odd_values, random_expression, random_machines, reading_by_hand,
    sample_machines, sample_texts, shown, told_otherwise)
from tests.test_ranks import STRAIGHT, TWO_RINGS, dense_machines

ROOMS = str(corridor(4))
FLAT = "(1 | (a ((b a) | (a (a b)* b))* b))"
STEEP = "(a (a (a b)* b)* b)*"
ROOM_TABLE = table(corridor(4), Expression.read(FLAT))
PAIRS = ((1, (0, 1)), (1, (1, 2)), (1, (2, 3)), (2, (0, 1, 2, 3)))


def machines(seed, many=25):
    return [m for m in sample_machines() if m.size < 6 and len(m.moves) <= 12] + [
        STRAIGHT, TWO_RINGS] + random_machines(seed, many, most=5) + dense_machines(seed, 3, 5, 12)


def expressions(seed, many=60):
    rng = random.Random(seed)
    return [Expression.read(text) for text in sample_texts()] + [
        random_expression(rng, rng.randint(0, 7), "ab") for _ in range(many)]


def paper_by_text(paper):
    if paper[0] == "expression":
        return "expression", str(paper[1]), paper[2]
    return paper


def findings_of_machine(rng, machine, others):
    """Findings that hold of a machine."""
    text, whole = str(machine), rank(machine)
    expression = expression_for(machine, levels=rng.choice([None, levels_of_any_kind(rng, machine)]))
    found = [("paper", text, depth, paper_by_text(judge(machine, depth))) for depth in range(whole + 2)]
    found.append(("paper", text, 21, ("expression", str(expression), table(machine, expression))))
    found.append(("same", text, str(expression), table(machine, expression)))
    found.append(("levels", text, levels(machine)))
    found.append(("levels", text, levels_of_any_kind(rng, machine)))
    for other in rng.sample(others, 4):
        word = parting_word(machine, other)
        if word is not None:
            found.append(("apart", text, str(other), word))
    return found


def findings_of_expression(rng, expression):
    """Findings that hold of an expression."""
    text = str(expression)
    word = "".join(letters_read(expression, told := reading_by_hand(rng, expression)))
    found = [("reading", text, word, told), ("reading", text, word, reading(expression, word))]
    if witness(expression) is not None:
        found.append(("witness", text, witness(expression)))
    return found


def letters_read(expression, told):
    """The letters of a reading, in order."""
    if isinstance(told, str):
        return [told]
    return [sign for item in told if not isinstance(item, int) for sign in letters_read(expression, item)]


def findings(rng, seed):
    """Findings of all six kinds that hold, none of them very long."""
    others = expressions(seed)
    found = [thing for machine in machines(seed + 1) for thing in findings_of_machine(rng, machine, others)]
    found += [thing for expression in others for thing in findings_of_expression(rng, expression)]
    return [thing for thing in found if len(str(thing)) < 900]


class FindingTest(unittest.TestCase):

    def check(self, thing):
        before = shown(thing)
        expected = is_finding(thing)
        self.assertIs(finding_holds(thing), expected, thing)
        self.assertIs(finding_holds(thing=thing), expected)
        self.assertEqual(shown(thing), before)
        return expected

    def test_what_the_functions_tell(self):
        rng = random.Random(401)
        others = expressions(402)
        words = set()
        for machine in machines(403, 40):
            for thing in findings_of_machine(rng, machine, others):
                self.assertTrue(self.check(thing), thing)
                words.add(thing[0])
        for expression in others:
            for thing in findings_of_expression(rng, expression):
                self.assertTrue(self.check(thing), thing)
                words.add(thing[0])
        self.assertEqual(words, {"paper", "same", "apart", "levels", "witness", "reading"})

    def only_the_first_holds(self, right, *wrongs):
        self.assertTrue(self.check(right), right)
        for wrong in wrongs:
            self.assertFalse(self.check(wrong), wrong)

    def test_papers_with_expressions(self):
        paper = ("expression", FLAT, ROOM_TABLE)
        self.only_the_first_holds(
            ("paper", ROOMS, 2, paper), ("paper", ROOMS, 1, paper), ("paper", str(corridor(3)), 2, paper),
            ("paper", corridor(4), 2, paper), ("paper", ROOMS + "\n", 2, paper), ("paper", ROOMS, "2", paper),
            ("paper", ROOMS.replace("\n", ";"), 2, paper), ("paper", ROOMS, None, paper), ("paper", ROOMS, -1, paper),
            ("papers", ROOMS, 2, paper), ("Paper", ROOMS, 2, paper), ("", ROOMS, 2, paper), ("same", ROOMS, 2, paper),
            ("paper", ROOMS, 2, paper, ()), ("paper", ROOMS, 2), (ROOMS, 2, paper), ["paper", ROOMS, 2, paper],
            *[("paper", ROOMS, 2, wrong) for wrong in (
                ("expression", STEEP, ROOM_TABLE), ("expression", Expression.read(FLAT), ROOM_TABLE), list(paper),
                ("expression", FLAT, ROOM_TABLE[::-1]), ("expression", FLAT, ROOM_TABLE[1:]), ("expression", FLAT),
                ("expression", FLAT, list(ROOM_TABLE)), (FLAT, ROOM_TABLE), ("expression", FLAT, ROOM_TABLE, ()),
                ("nest", FLAT, ROOM_TABLE), ("expression", "", ROOM_TABLE), (letter("a"), FLAT, ROOM_TABLE),
                ([], FLAT, ROOM_TABLE), ("expression", FLAT + " ", ROOM_TABLE), (), None, FLAT)])

    def test_papers_with_nests(self):
        paper = ("nest", PAIRS)
        self.only_the_first_holds(
            ("paper", ROOMS, 1, paper), ("paper", ROOMS, 2, paper), ("paper", ROOMS, True, paper),
            ("paper", str(corridor(3)), 1, paper), ("paper", ROOMS, -1, paper), ("nest", ROOMS, 1, PAIRS),
            ("nest", ROOMS, PAIRS), *[("paper", ROOMS, 1, wrong) for wrong in (
                ("nest", PAIRS[:3]), ("nest", ()), ("nest", PAIRS[1:]), ("nest", list(PAIRS)), ("nest",), PAIRS,
                ("nest", PAIRS, ()), ("expression", PAIRS), ["nest", PAIRS])])

    def test_tables(self):
        found = table(corridor(4), Expression.read(STEEP))
        self.only_the_first_holds(
            ("same", ROOMS, STEEP, found), ("same", ROOMS, FLAT, found), ("same", ROOMS, STEEP, found[::-1]),
            ("same", str(corridor(3)), STEEP, found), ("same", STEEP, ROOMS, found), ("same", ROOMS, STEEP, ()),
            ("same", ROOMS, STEEP, None), ("same", ROOMS, STEEP), ("same", ROOMS, Expression.read(STEEP), found),
            ("apart", ROOMS, STEEP, found), ("same", corridor(4), STEEP, found), ("same", ROOMS, STEEP, list(found)),
            ("same", ROOMS, STEEP, found, found), ["same", ROOMS, STEEP, found], ("table", ROOMS, STEEP, found))

    def test_words_that_part(self):
        self.only_the_first_holds(
            ("apart", ROOMS, "(a b)*", "aabb"), ("apart", ROOMS, "(a b)*", "ab"), ("apart", ROOMS, "(a b)*", "ba"),
            ("apart", ROOMS, "(a b)*", ""), ("apart", ROOMS, "(a b)*", "aaaabbbb"), ("apart", ROOMS, "(a b)*", None),
            ("apart", ROOMS, "(a b)*", ("a", "a", "b", "b")), ("apart", ROOMS, "(a b)*", "AABB"),
            ("apart", ROOMS, "(a b)*", 0), ("apart", ROOMS, "(a b)*"), ("apart", "(a b)*", ROOMS, "aabb"),
            ("apart", ROOMS, STEEP, "aabb"), ("apart", ROOMS, "a b*", "aabb"), ("apart", corridor(4), "(a b)*", "aabb"),
            ("apart", ROOMS, Expression.read("(a b)*"), "aabb"), ("apart", ROOMS, "(a b)*", "aabb", ""))
        self.only_the_first_holds(("apart", ROOMS, "(a b)+", ""), ("apart", ROOMS, "(a b)+", "ab"))
        self.only_the_first_holds(("apart", ROOMS, "(b | 1)", "b"), ("apart", ROOMS, "(b | 1)", ""))

    def test_levels(self):
        self.only_the_first_holds(
            ("levels", ROOMS, (0, 2, 1, 0)), ("levels", ROOMS, (0, 0, 0, 0)), ("levels", ROOMS, (0, 1, 1, 0)),
            ("levels", ROOMS, (0, 2, 1)), ("levels", ROOMS, (0, 2, 1, 0, 0)), ("levels", ROOMS, [0, 2, 1, 0]),
            ("levels", ROOMS, (0, 2, True, 0)), ("levels", ROOMS, None), ("levels", ROOMS), ("levels", STEEP, (0,)),
            ("levels", corridor(4), (0, 2, 1, 0)), ("levels", ROOMS, 0, (0, 2, 1, 0)),
            ("levels", str(ring(4)), (0, 0, 0, 0)), ("level", ROOMS, (0, 2, 1, 0)))

    def test_witnesses(self):
        text = "(a | (a b))"
        self.only_the_first_holds(
            ("witness", text, ("a", "ab", "", "b")), ("witness", text, ("ab", "a", "", "b")),
            ("witness", text, ("a", "ab", "b", "")), ("witness", text, ("a", "ab", "", "")), ("witness", text),
            ("witness", text, ["a", "ab", "", "b"]), ("witness", text, ("a", "ab", "")), ("witness", text, None),
            ("witness", text, ("a", "ab", "", "b", "")), ("witness", "(a | b)", ("a", "ab", "", "b")),
            ("witness", "a | (a b)", ("a", "ab", "", "b")), ("witness", Expression.read(text), ("a", "ab", "", "b")),
            ("witness", ("a", "ab", "", "b"), text), ("witness", text, "a", "ab", "", "b"), ("witness",),
            ("witness", text, ("A", "ab", "", "b")), ("witness", text, ("a", "ab", "", "b"), ()))

    def test_readings(self):
        text, found = "(a | b)*", ((0, "a"), (1, "b"))
        self.only_the_first_holds(
            ("reading", text, "ab", found), ("reading", text, "ba", found), ("reading", text, "a", found),
            ("reading", "(b | a)*", "ab", found), ("reading", text, "ab", list(found)), ("reading", text, "", found),
            ("reading", text, "ab", ((False, "a"), (1, "b"))), ("reading", text, "ab", ((0, "a"),)),
            ("reading", text, None, ()), ("reading", text, (), ()), ("reading", text, found, "ab"),
            ("reading", Expression.read(text), "ab", found), ("reading", "(a|b)*", "ab", found),
            ("reading", text, found), ("reading", text, 0, found), ("reading", "A", "A", "A"),
            ("reading", text, "ab", found, ()))

    def test_depths_of_any_size(self):
        text = str(ring(1))
        paper = ("expression", "a*", ((0, (-1,)), (0, (0,))))
        for depth, expected in ((0, False), (1, True), (2, True), (10 ** 39, True), (-10 ** 39, False), (True, False)):
            self.assertIs(self.check(("paper", text, depth, paper)), expected)
        for depth, expected in ((0, True), (1, False), (10 ** 39, False), (-1, False), (False, False)):
            self.assertIs(self.check(("paper", text, depth, ("nest", ((1, (0,)),)))), expected)

    def test_texts_that_tell_no_machine(self):
        for text in ("", "machine 2", "machine 1\nends 0 0\n", "machine 2\nends 0 0", "machine 1\nends 0 1", "a", "1",
                     "machine 1;ends 0 0", "machine 01\nends 0 0", "machine 1\nends 0 0\nmove 0 a 0\nmove 0 a 0",
                     "machine 2\nends 0 1\nmove 0 a 0\nmove 0 a 1", "machine 1000\nends 0 0", " machine 1\nends 0 0",
                     "machine 0\nends 0 0", "Machine 1\nends 0 0"):
            for thing in (("paper", text, 1, ("nest", ())), ("paper", text, 1, ("expression", "1", ((0, (-1,)),))),
                          ("same", text, "1", ((0, (-1,)),)), ("apart", text, "a", ""), ("levels", text, (1,)),
                          ("levels", text, ()), ("levels", text, (1, 2))):
                self.assertFalse(self.check(thing), thing)
        right = "machine 1\nends 0 0"
        for thing in (("paper", right, 1, ("expression", "1", ((0, (-1,)),))), ("same", right, "1", ((0, (-1,)),)),
                      ("apart", right, "a", ""), ("apart", right, "a", "a"), ("levels", right, (1,)),
                      ("levels", right, (0,))):
            self.assertTrue(self.check(thing), thing)

    def test_texts_that_tell_no_expression(self):
        machine = str(corridor(1))
        for text in ("", "()", "(a)", "a b", "(a  b)", "A", "(1", "**", "(a |b)", "1 ", "\n", "(1 | 1", "{", "%"):
            for thing in (("paper", machine, 1, ("expression", text, ((0, (-1,)),))), ("apart", machine, text, ""),
                          ("same", machine, text, ((0, (-1,)),)), ("apart", machine, text, "a"),
                          ("witness", text, ("", "", "", "")), ("witness", text, ("a", "", "", "a")),
                          ("reading", text, "", ()), ("reading", text, text, text)):
                self.assertFalse(self.check(thing), thing)

    def test_numbered_otherwise(self):
        for machine in machines(404):
            expression = expression_for(machine)
            found = table(machine, expression)
            other = machine.numbered()
            for thing in (("same", str(other), str(expression), found), ("levels", str(other), levels(machine)),
                          ("paper", str(other), rank(machine), ("expression", str(expression), found)),
                          ("paper", str(other), rank(machine) - 1, ("nest", nest(machine)))):
                self.check(thing)
            self.assertTrue(self.check(("same", str(other), str(expression), table(other, expression))))

    def test_changed_once_or_twice(self):
        rng = random.Random(405)
        right = findings(rng, 406)
        many = {}
        for _ in range(7000):
            thing = rng.choice(right)
            name = thing[0]
            how = rng.choice([made_otherwise, told_otherwise, told_otherwise])
            for _ in range(rng.choice([1, 1, 2])):
                thing = how(rng, thing)
            held = self.check(thing)
            many[name, held] = many.get((name, held), 0) + 1
        for name in ("paper", "same", "apart", "levels", "witness", "reading"):
            self.assertGreater(many[name, False], 50)
            self.assertGreater(many[name, True], 10)

    def test_parts_of_other_findings(self):
        rng = random.Random(408)
        right = findings(rng, 409)
        held = 0
        for _ in range(4000):
            thing, other = rng.choice(right), rng.choice(right)
            at = rng.randrange(len(thing))
            held += self.check((*thing[:at], other[min(at, len(other) - 1)], *thing[at + 1:]))
        self.assertGreater(held, 50)

    def test_any_value(self):
        text, found = str(ring(1)), ((0, (-1,)), (0, (0,)))
        for thing in odd_values():
            self.assertFalse(self.check(thing))
            for name in ("paper", "same", "apart", "levels", "witness", "reading"):
                for value in ((name, thing), (name, thing, thing), (name, thing, thing, thing), (thing, name),
                              (name, thing, "a*", "a"), (name, text, thing, ()), (name, text, "a*", thing),
                              (name, "a?", thing), (name, "a*", thing), (name, "a*", "a", thing), (name, text, thing),
                              (name, "a*", thing, ("a",)), (name, text, 0, thing), (name, thing, 0, ("nest", thing)),
                              (name, text, 1, ("expression", thing, found)), (name, text, 0, ("nest", thing)),
                              (name, text, 1, ("expression", "a*", thing)), (name, text, 1, (thing, "a*", found)),
                              (name, text, thing, ("nest", ((1, (0,)),)))):
                    self.check(value)
            self.check((thing, text, "a*", found))
        self.assertFalse(self.check(("reading", str(one()), "", 0)))

    def test_limits_do_not_hold_for_any_value(self):
        whole = ("a",) * 4000
        for thing, expected in (
                (("witness", "a" + "*" * 3900, ("a", "", "a", "")), False),
                (("witness", "a" + "?" * 3900, ("", "a", "", "a")), True),
                (("witness", "a+", ("a" * 4000, "", "a", "")), True), (("reading", "a*", "a" * 4000, whole), True),
                (("reading", "a+", "a" * 3999, whole), False), (("apart", str(ring(1)), "a?", "a" * 4000), True),
                (("apart", str(ring(1)), "a+", "a" * 4000), False),
                (("same", str(ring(1)), "a*", ((0, (-1,)), (0, (0,))) * 2000), False),
                (("reading", "(" * 3999, "", ()), False), (("reading", "1" + "?" * 3999, "", ()), True),
                (("paper", "machine " + "9" * 3990, 0, ("nest", ())), False),
                (("levels", str(corridor(1)), (10 ** 39,)), True), (("levels", str(ring(1)), (10 ** 39,)), True),
                (("levels", str(corridor(1)), (-10 ** 39,)), False)):
            self.assertIs(finding_holds(thing), expected)


if __name__ == "__main__":
    unittest.main()
