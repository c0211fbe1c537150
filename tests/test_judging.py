"""Tables and papers (points 8 and 10), the guarantee (point 3), and the interface's section on judging."""

import itertools
import random
import unittest

from loopsdeep.errors import BadLevels
from loopsdeep.expressions import Expression, letter, one
from loopsdeep.judging import expression_for, judge, judge_holds, parting_word, table, table_holds
from loopsdeep.machines import Machine
from loopsdeep.makers import all_ways, corridor, ring
from loopsdeep.ranks import least_cuts, levels, levels_hold, nest, rank
from tests.references import (
    are_levels, first_parting_word, height_of, is_paper, is_table, rank_told)
from tests.samples import (
    LETTERS, all_words, letters_in, made_otherwise, odd_values, random_expression, random_machines, sample_machines,
    sample_texts, shown, words_within)
from tests.test_ranks import STRAIGHT, TWO_RINGS, dense_machines

LOOPED = Machine(2, 0, 1, ((0, "a", 1), (0, "b", 0), (1, "a", 0), (1, "c", 1)))


def machines(seed, many=40):
    return [m for m in sample_machines() if m.size < 6 and len(m.moves) <= 12] + [
        STRAIGHT, TWO_RINGS, LOOPED] + random_machines(seed, many, most=5)


def expressions(seed, many=40, most=7):
    rng = random.Random(seed)
    return [Expression.read(text) for text in sample_texts()] + [
        random_expression(rng, rng.randint(0, most), "ab") for _ in range(many)]


def other_tables(machine, expression):
    """Some tables beside the one that table returns: with pairs that no other one needs."""
    found = table(machine, expression)
    for state in range(machine.size):
        for lot in [(-1,)] + [lot for _, lot in found] + [(p,) for p in range(min(expression.size, 6))]:
            if (state, lot) not in found:
                more = tuple(sorted([*found, (state, lot)]))
                if is_table(machine, expression, more):
                    yield more


class ExpressionForTest(unittest.TestCase):

    def check(self, machine, expression, most=5):
        self.assertIsInstance(expression, Expression)
        self.assertEqual(Expression.read(str(expression)), expression)
        most = most if len(machine.letters) < 4 else 3
        words = words_within(expression, most, iter(letters_in(str(expression))))
        self.assertEqual(sorted(words, key=lambda word: (len(word), word)), list(machine.words(most=most)))
        self.assertTrue(is_table(machine, expression, table(machine, expression)))

    def test_depth_is_the_rank(self):
        for machine in machines(111, 80) + dense_machines(112, 10, 5, 12) + dense_machines(113, 10, 4, 12):
            text = str(machine)
            expression = expression_for(machine)
            self.check(machine, expression)
            self.assertEqual(expression.depth, rank_told(machine))
            self.assertEqual(expression_for(machine), expression)
            self.assertEqual(expression_for(machine, levels=None), expression)
            self.assertEqual(expression_for(levels=None, machine=machine), expression)
            self.assertEqual(str(machine), text)

    def test_known(self):
        for machine, depth in ((ring(3), 1), (ring(1), 1), (corridor(1), 0), (corridor(4), 2), (all_ways(4), 3),
                               (STRAIGHT, 0), (TWO_RINGS, 1), (LOOPED, 2), (corridor(5), 2)):
            expression = expression_for(machine)
            self.assertEqual(expression.depth, depth)
            self.check(machine, expression, 7)

    def test_each_tuple_of_levels(self):
        for machine in machines(114, 25):
            many = {True: 0, False: 0}
            for told in itertools.product((0, 1, 3) if machine.size > 3 else (0, 1, 2, 7), repeat=machine.size):
                held = are_levels(machine, told)
                many[held] += 1
                if held:
                    expression = expression_for(machine, levels=told)
                    self.assertLessEqual(expression.depth, max(told))
                    if many[True] % 9 == 1:
                        self.check(machine, expression, 4)
                        self.assertEqual(expression_for(machine, levels=told), expression)
                else:
                    self.refuses(machine, told)

    def test_levels_of_the_machine(self):
        for machine in machines(115, 40):
            self.assertEqual(expression_for(machine, levels=levels(machine)).depth, rank(machine))

    def test_levels_with_gaps_and_greater_numbers(self):
        for machine in dense_machines(116, 15, 5, 12) + machines(117, 20):
            rng = random.Random(machine.size)
            for _ in range(3):
                told = tuple(rng.sample([1, 2, 3, 5, 8, 10 ** 39], machine.size))
                expression = expression_for(machine, levels=told)
                self.assertLessEqual(expression.depth, max(told))
                self.assertGreaterEqual(expression.depth, rank(machine))
                self.assertTrue(is_table(machine, expression, table(machine, expression)))

    def refuses(self, machine, told):
        with self.assertRaises(BadLevels) as context:
            expression_for(machine, levels=told)
        self.assertIs(context.exception.levels, told)

    def test_any_value_for_levels(self):
        for thing in odd_values():
            for machine in (ring(1), ring(2), STRAIGHT):
                for value in (thing, (thing,), (thing, 0), (0, thing, 0)):
                    before = shown(value)
                    if value is None or are_levels(machine, value):
                        self.assertIsInstance(expression_for(machine, levels=value), Expression)
                    else:
                        self.refuses(machine, value)
                    self.assertEqual(shown(value), before)
        for value in ((True, 0), [1, 0], (0, 0), (1, 1), (1,), (1, 0, 0), (-1, 0), (), False, 0, "", [], {}):
            self.refuses(ring(2), value)

    def test_changed_levels(self):
        rng = random.Random(118)
        for machine in machines(119, 60):
            for _ in range(10):
                told = made_otherwise(rng, levels(machine))
                if levels_hold(machine, told) or told is None:
                    self.assertIsInstance(expression_for(machine, levels=told), Expression)
                else:
                    self.refuses(machine, told)


class TableTest(unittest.TestCase):

    def check(self, machine, expression):
        texts = str(machine), str(expression)
        found = table(machine, expression)
        if found is None:
            self.assertIsNotNone(parting_word(machine, expression))
        else:
            self.assertTrue(is_table(machine, expression, found), texts)
            self.assertIs(table_holds(machine, expression, found), True)
            self.assertIsNone(parting_word(machine, expression))
        self.assertEqual(table(expression=expression, machine=machine), found)
        self.assertEqual((str(machine), str(expression)), texts)
        return found

    def test_by_hand(self):
        self.assertEqual(table(ring(1), Expression.read("a*")), ((0, (-1,)), (0, (0,))))
        self.assertEqual(table(ring(2), Expression.read("(a a)*")), ((0, (-1,)), (0, (1,)), (1, (0,))))
        self.assertEqual(table(corridor(1), one()), ((0, (-1,)),))
        self.assertEqual(table(Machine(2, 1, 0, ((1, "b", 0),)), letter("b")), ((0, (0,)), (1, (-1,))))
        self.assertEqual(table(corridor(2), Expression.read("(1 | (a (b a)* b))")), (
            (0, (-1,)), (0, (1, 3)), (1, (0,)), (1, (2,))))

    def test_same_words(self):
        for machine in machines(121, 60):
            for expression in (expression_for(machine), expression_for(machine.numbered()),
                               expression_for(machine) | expression_for(machine)):
                self.assertIsNotNone(self.check(machine, expression))
            backward = expression_for(machine).backward()
            self.assertIsNotNone(self.check(machine.backward(), backward))
            if "" in machine:
                self.assertIsNotNone(self.check(machine, one() | expression_for(machine).maybe()))

    def test_other_words(self):
        for machine, text in ((ring(1), "a+"), (ring(1), "a"), (ring(1), "1"), (ring(1), "b*"), (ring(1), "(a | b)*"),
                              (ring(2), "a*"), (ring(2), "(a a)+"), (ring(2), "(a a a a)*"), (corridor(1), "a?"),
                              (corridor(3), "(a b)*"), (corridor(2), "(a b a b)*"), (STRAIGHT, "((a c) | b)?"),
                              (STRAIGHT, "b"), (STRAIGHT, "(a c)"), (LOOPED, "(b* a c*)")):
            self.assertIsNone(self.check(machine, Expression.read(text)))

    def test_all_of_some_machines_and_expressions(self):
        some = [m for m in machines(122, 30) if set(m.letters) <= set("ab")]
        made = expressions(123, 60, 4) + [expression_for(machine) for machine in some]
        same = 0
        for machine in some:
            for expression in made:
                found = self.check(machine, expression)
                word = first_parting_word(machine, expression, 4)
                if word is not None:
                    self.assertIsNone(found)
                same += found is not None
        self.assertGreater(same, len(some))

    def test_with_pairs_that_no_other_one_needs(self):
        many = 0
        for machine in machines(124, 20):
            expression = expression_for(machine) | expression_for(machine)
            for more in itertools.islice(other_tables(machine, expression), 5):
                self.assertIs(table_holds(machine, expression, more), True)
                many += 1
        self.assertGreater(many, 20)

    def test_before_the_first_letter_beside_other_states(self):
        # (0, (-1,)) stands for the first state; the same lot may stand beside another state that goes on alike.
        machine = Machine(3, 0, 2, ((0, "a", 1), (1, "a", 2)))
        expression = Expression.read("(a a)")
        right = ((0, (-1,)), (1, (0,)), (2, (1,)))
        self.assertIs(table_holds(machine, expression, right), True)
        for state in (1, 2):
            self.assertIs(table_holds(machine, expression, tuple(sorted([*right, (state, (-1,))]))), False)
        self.assertIs(table_holds(ring(1), Expression.read("(a | a)*"), (
            (0, (-1,)), (0, (0,)), (0, (0, 1)), (0, (1,)))), True)

    def test_wrong_in_one_thing(self):
        machine, expression = corridor(2), Expression.read("(a b)*")
        right = ((0, (-1,)), (0, (1,)), (1, (0,)))
        self.assertIs(table_holds(machine, expression, right), True)
        self.assertIs(table_holds(thing=right, expression=expression, machine=machine), True)
        for wrong in (
                (), right[1:], right[:2], (right[0], right[2]), right[::-1], right + right[2:], list(right),
                (right[1], right[0], right[2]), (*right, (1, (1,))), (*right, (1, ())), (*right, (2, (0,))),
                ((0, (-1,)), (0, ()), (0, (1,)), (1, (0,))), ((0, (-1,)), (0, (1,)), (1, ()), (1, (0,))),
                ((0, (-1,)), (0, (0, 1)), (1, (0,))), ((0, (-1,)), (0, (1,)), (1, (0,)), (1, (0, 1))),
                ((0, (-1,)), (0, (1,)), (1, (0, 2))), ((0, (-1,)), (0, (True,)), (1, (0,))),
                ((False, (-1,)), (0, (1,)), (1, (0,))), ((0, (-1,)), (0, (1,)), (True, (0,))),
                ((0, (-1,)), (0, (1,)), (1, (False,))), ((0, [-1]), (0, (1,)), (1, (0,))),
                ([0, (-1,)], (0, (1,)), (1, (0,))), ((0, (-1,)), (0, (1,)), (1, (0,), ())), ((0, (-1,)), (0, (1,)), (1,)),
                ((0, (-1,)), (0, (1,)), (1, 0)), ((0, (-1,)), (0, (1,)), (1, None)), ((0, (-2,)), *right),
                ((0, (-1,)), (0, (1,)), (1, (-1,)), (1, (0,))), ((1, (-1,)), (0, (1,)), (1, (0,))),
                ((0, (-1, 0)), (0, (1,)), (1, (0,)))):
            self.assertFalse(is_table(machine, expression, wrong), wrong)
            self.assertIs(table_holds(machine, expression, wrong), False)

    def test_tables_of_others(self):
        pairs = []
        for machine in machines(125, 30):
            expression = expression_for(machine)
            pairs.append((machine, expression, table(machine, expression)))
        held = 0
        for machine, expression, _ in pairs:
            for other, other_expression, thing in pairs:
                for one_machine, one_expression in ((machine, other_expression), (other, expression)):
                    expected = is_table(one_machine, one_expression, thing)
                    self.assertIs(table_holds(one_machine, one_expression, thing), expected)
                    held += expected
        self.assertGreater(held, len(pairs))

    def test_changed(self):
        rng = random.Random(126)
        some = [(machine, expression_for(machine)) for machine in machines(127, 30)]
        some += [(ring(1), Expression.read("(a | a)*")), (ring(1), Expression.read("(a? a?)*"))] * 10
        many = {True: 0, False: 0}
        for _ in range(2500):
            machine, expression = rng.choice(some)
            thing = table(machine, expression)
            if rng.random() < 0.3:
                lot = tuple(sorted(rng.sample(range(expression.size), rng.randint(0, min(3, expression.size)))))
                thing = tuple(sorted({*thing, (rng.randrange(machine.size), lot)}))
            else:
                thing = made_otherwise(rng, thing)
            if rng.random() < 0.2:
                thing = made_otherwise(rng, thing)
            before = shown(thing)
            expected = is_table(machine, expression, thing)
            self.assertIs(table_holds(machine, expression, thing), expected, thing)
            self.assertEqual(shown(thing), before)
            many[expected] += 1
        self.assertGreater(min(many.values()), 50)

    def test_any_value(self):
        for thing in odd_values():
            for machine, expression in ((corridor(1), one()), (ring(1), letter("a").loop())):
                for value in (thing, (thing,), ((0, (-1,)), thing), ((0, thing),), ((thing, (-1,)),), ((0, (thing,)),),
                              ((0, (-1,)), (0, (thing,))), ((0, (-1,)), (thing, (0,))), ((0, (-1,)), (0, thing))):
                    self.assertIs(table_holds(machine, expression, value), is_table(machine, expression, value))
        self.assertIs(table_holds(ring(1), letter("a").loop(), ((0, (-1,)), (0, (0,))) * 1000), False)


class PartingWordTest(unittest.TestCase):

    def check(self, machine, expression, most=4):
        texts = str(machine), str(expression)
        word = parting_word(machine, expression)
        self.assertEqual(parting_word(expression=expression, machine=machine), word)
        if word is None:
            self.assertTrue(is_table(machine, expression, table(machine, expression)))
        else:
            self.assertIs((word in machine) != (word in expression), True)
            self.assertIsNone(table(machine, expression))
        shortest = first_parting_word(machine, expression, most)
        if shortest is None:
            self.assertTrue(word is None or len(word) > most, texts)
        else:
            self.assertEqual(word, shortest, texts)
        self.assertEqual((str(machine), str(expression)), texts)

    def test_known(self):
        for machine, text, word in (
                (corridor(3), "(a b)*", "aabb"), (ring(1), "a+", ""), (ring(1), "1", "a"), (ring(1), "(a | z)*", "z"),
                (ring(1), "(a | b)*", "b"), (ring(3), "(a a)*", "aa"), (corridor(1), "b?", "b"), (ring(2), "a?", "a"),
                (ring(4), "((a a a a a a a a)* (a a a a)?)", None), (corridor(2), "(a b)+", ""),
                (Machine(2, 0, 1, ((0, "b", 1),)), "(c | b | a)", "a"), (STRAIGHT, "(a c)", "b"),
                (STRAIGHT, "(b | (a d))", "ac"), (ring(5), "((a a a a a a)* (a a)*)*", "aa"), (ring(2), "(b | a)*", "a")):
            expression = Expression.read(text)
            self.assertEqual(parting_word(machine, expression), word)
            self.check(machine, expression, 6)

    def test_least_of_several(self):
        machine = Machine(2, 0, 1, ((0, "b", 1), (0, "m", 1)))
        for text, word in (("(b | m | z | c)", "c"), ("b", "m"), ("m", "b"), ("(z | y)", "b"), ("(a | z | b | m)", "a"),
                           ("(1 | a)", ""), ("(b | m | (b b) | (a z) | (z a))", "az")):
            self.assertEqual(parting_word(machine, Expression.read(text)), word)

    def test_all_of_some_machines_and_expressions(self):
        made = expressions(131, 60)
        for machine in [m for m in machines(132, 30) if len(m.letters) <= 3]:
            for expression in made[:len(sample_texts())][::4] + random.Random(machine.size).sample(made, 12):
                if len(set(expression.letters) | set(machine.letters)) < 5:
                    self.check(machine, expression)

    def test_expressions_changed_in_one_thing(self):
        rng = random.Random(133)
        for machine in machines(134, 60):
            if len(machine.letters) < 4:
                expression = made_otherwise(rng, expression_for(machine))
                if isinstance(expression, Expression) and set(expression.letters) <= set("abc"):
                    self.check(machine, expression, 5)

    def test_long_words(self):
        self.assertEqual(parting_word(ring(60), Expression.read("(" + " ".join(["a"] * 59) + ")*")), "a" * 59)
        self.assertEqual(parting_word(corridor(20), Expression.read("(a (a b)* b)*")), "aaabbb")
        machine = Machine(201, 0, 200, tuple((k, "a", k + 1) for k in range(200)))
        self.assertEqual(parting_word(machine, Expression.read("(b a*)")), "b")
        self.assertEqual(parting_word(machine, Expression.read("(a a+ b)")), "aab")
        self.assertEqual(parting_word(ring(400), Expression.read("(" + " ".join(["a"] * 50) + ")*")), "a" * 50)

    def test_large_machines(self):
        rooms = corridor(20) & ring(20).renamed(a="c")
        self.assertEqual(parting_word(rooms, Expression.read("(a | b | c)*")), "a")
        expression = Expression.read("(((a | b | c)+ d) | 1)")
        self.assertEqual(parting_word(rooms, expression), "ab")
        self.assertIsNone(table(rooms, expression))


class JudgeTest(unittest.TestCase):

    def test_papers(self):
        for machine in machines(141, 60) + dense_machines(142, 5, 5, 12):
            text = str(machine)
            whole = rank_told(machine)
            for depth in range(whole + 3):
                paper = judge(machine, depth)
                self.assertEqual(paper[0], "expression" if depth >= whole else "nest")
                self.assertTrue(is_paper(machine, depth, paper))
                self.assertIs(judge_holds(machine, depth, paper), True)
                self.assertEqual(judge(machine=machine, depth=depth), paper)
                for other in range(whole + 3):
                    expected = is_paper(machine, other, paper)
                    self.assertIs(judge_holds(machine, other, paper), expected)
                    self.assertLessEqual(expected, (paper[0] == "expression") == (other >= whole))
            self.assertEqual(str(machine), text)

    def test_known(self):
        self.assertEqual(judge(corridor(2), 0), ("nest", ((1, (0, 1)),)))
        self.assertEqual(judge(corridor(1), 0), ("expression", one(), ((0, (-1,)),)))
        self.assertEqual(judge(ring(1), 10 ** 39)[:2], ("expression", letter("a").loop()))
        self.assertEqual([judge(corridor(4), depth)[0] for depth in range(4)], ["nest"] * 2 + ["expression"] * 2)

    def test_papers_by_hand(self):
        rooms = corridor(4)
        flat = Expression.read("(1 | (a ((b a) | (a (a b)* b))* b))")
        steep = Expression.read("(a (a (a b)* b)* b)*")
        pairs = ((1, (0, 1)), (1, (1, 2)), (1, (2, 3)), (2, (0, 1, 2, 3)))
        for depth, thing, expected in (
                (2, ("expression", flat, table(rooms, flat)), True), (3, ("expression", flat, table(rooms, flat)), True),
                (1, ("expression", flat, table(rooms, flat)), False),
                (2, ("expression", steep, table(rooms, steep)), False),
                (3, ("expression", steep, table(rooms, steep)), True),
                (3, ("expression", steep, table(rooms, flat)), False),
                (2, ("expression", flat, table(rooms, steep)), False),
                (2, ("expression", str(flat), table(rooms, flat)), False),
                (2, ("expression", flat), False), (2, ("expression", flat, None), False),
                (2, ("expression", flat, table(rooms, flat), ()), False), (2, (flat, table(rooms, flat)), False),
                (2, ["expression", flat, table(rooms, flat)], False), (2, ("nest", flat, table(rooms, flat)), False),
                (2, ("Expression", flat, table(rooms, flat)), False), (1, ("nest", pairs), True),
                (0, ("nest", pairs), True), (2, ("nest", pairs), False), (0, ("nest", pairs[:3]), True),
                (1, ("nest", pairs[:3]), False), (0, ("nest", pairs[:1]), True), (0, ("nest", ()), False),
                (0, ("nest", pairs[1:]), False), (0, ("nest", list(pairs)), False), (0, ["nest", pairs], False),
                (0, ("nest", pairs, ()), False), (0, ("nest",), False), (0, ("expression", pairs), False),
                (0, pairs, False), (0, ("nests", pairs), False), (0, (), False), (0, "nest", False)):
            self.assertIs(is_paper(rooms, depth, thing), expected, thing)
            self.assertIs(judge_holds(rooms, depth, thing), expected, thing)
            self.assertIs(judge_holds(thing=thing, depth=depth, machine=rooms), expected)

    def test_expressions_of_any_kind_with_the_words(self):
        for machine in machines(143, 30):
            expression = expression_for(machine)
            for other in (expression, expression | expression, one() + expression, expression + one()):
                thing = ("expression", other, table(machine, other))
                for depth in range(rank(machine) + 2):
                    self.assertIs(judge_holds(machine, depth, thing), depth >= other.depth)

    def test_changed(self):
        rng = random.Random(144)
        some = machines(145, 40)
        many = {True: 0, False: 0}
        for _ in range(2500):
            machine = rng.choice(some)
            depth = rng.randint(0, 3)
            thing = judge(machine, rng.choice([depth, depth, rng.randint(0, 3)]))
            for _ in range(rng.choice([0, 1, 1, 1, 2])):
                thing = made_otherwise(rng, thing)
            before = shown(thing)
            expected = is_paper(machine, depth, thing)
            self.assertIs(judge_holds(machine, depth, thing), expected, thing)
            self.assertEqual(shown(thing), before)
            many[expected] += 1
        self.assertGreater(min(many.values()), 300)

    def test_any_value(self):
        for thing in odd_values():
            for machine, depth in ((ring(1), 0), (ring(1), 1), (corridor(1), 0)):
                for value in (thing, (thing,), (thing, thing), ("nest", thing), (thing, ((1, (0,)),)), ("nest", (thing,)),
                              ("expression", thing, ((0, (-1,)),)), ("expression", one(), thing), ("nest", ((1, thing),)),
                              (thing, one(), ((0, (-1,)),)), ("expression", letter("a").loop(), ((0, (-1,)), thing)),
                              ("nest", ((1, (0,)),), thing)):
                    self.assertIs(judge_holds(machine, depth, value), is_paper(machine, depth, value), value)

    def test_expressions_far_beyond_the_limits(self):
        for text in ("a" + "*" * 3999, "(" * 999 + "a" + " b)" * 999, "(a | " * 666 + "1" + ")" * 666,
                     "(" + "a? " * 1300 + "b?)"):
            expression = Expression.read(text)
            for thing in (((0, (-1,)),), ((0, (-1,)), (0, (0,)))):
                paper = ("expression", expression, thing)
                self.assertIs(judge_holds(ring(1), 4000, paper), text[1] == "*" and len(thing) == 2)
                self.assertIs(judge_holds(ring(1), 1, paper), False)


class GuaranteeTest(unittest.TestCase):

    def test_flatter_expressions_are_told_apart(self):
        made = expressions(151, 150)
        for machine in machines(152, 40):
            whole = rank(machine)
            for expression in made:
                if expression.depth < whole:
                    word = parting_word(machine, expression)
                    self.assertIs((word in machine) != (word in expression), True)
                    self.assertIsNone(table(machine, expression))

    def test_same_words_exactly_if_equal_but_for_numbers(self):
        some = machines(153, 40)
        for machine in some:
            expression = expression_for(machine)
            for other in some:
                self.assertIs(parting_word(other, expression) is None, machine.is_same(other))
                self.assertIs(table(other, expression) is not None, machine.is_same(other))

    def test_rank_levels_nest_expression_and_papers_agree(self):
        for machine in machines(154, 60) + dense_machines(155, 5, 5, 12):
            whole = rank_told(machine)
            self.assertEqual(
                [rank(machine), max(levels(machine)), height_of(nest(machine)), expression_for(machine).depth,
                 rank(machine.backward()), expression_for(machine.backward()).depth], [whole] * 6)

    def test_what_least_cuts_names_makes_the_rank_less(self):
        for machine in [m for m in machines(156, 30) if len(m.moves) <= 10]:
            for cut in least_cuts(machine):
                kept = [move for move in machine.moves if move not in cut]
                self.assertLess(rank_told(machine, kept), rank(machine))

    def test_renamed_and_backward(self):
        for machine in machines(157, 30):
            expression = expression_for(machine)
            names = dict(zip(machine.letters, "zyxwvutsrqpo"))
            renamed = Expression.read(str(expression).translate(str.maketrans(names)))
            self.assertIsNotNone(table(machine.renamed(**names), renamed))
            self.assertIsNotNone(table(machine.backward(), expression.backward()))
            self.assertIsNone(parting_word(machine.backward(), expression.backward()))
            for word in all_words(machine.letters, 3):
                self.assertIs(word in expression, word in machine)

    def test_all_letters_made_one(self):
        for machine in machines(158, 30) + dense_machines(159, 5, 5, 12):
            text = "".join("a" if sign in LETTERS else sign for sign in str(expression_for(machine)))
            expression = Expression.read(text)
            word = parting_word(machine, expression)
            self.assertIs(word is None, table(machine, expression) is not None)
            if word is not None:
                self.assertIs((word in machine) != (word in expression), True)
                self.assertEqual(word, first_parting_word(machine, expression, min(len(word), 3)) or word)


if __name__ == "__main__":
    unittest.main()
