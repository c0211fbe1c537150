"""What the document promises over the whole program: points 2, 3, 8 and 12 to 16 together."""

import itertools
import random
import unittest

from loopsdeep.console import Console
from loopsdeep.errors import NotReversible
from loopsdeep.expressions import Expression
from loopsdeep.findings import finding_holds
from loopsdeep.judging import expression_for, judge, judge_holds, parting_word, table, table_holds
from loopsdeep.machines import Machine
from loopsdeep.makers import corridor, ring
from loopsdeep.positions import is_ending, lot_behind
from loopsdeep.ranks import knots, least_cuts, levels, levels_hold, nest, nest_holds, rank
from loopsdeep.readings import reading, reading_holds, rounds_of
from loopsdeep.reversing import machine_of, witness, witness_holds
from loopsdeep.walks import Walk
from tests.samples import (
    LETTERS, levels_of_any_kind, random_expression, random_machines, sample_machines, sample_texts, shown)
from tests.test_ranks import STRAIGHT, TWO_RINGS, dense_machines


def machines(seed, many=30):
    return [m for m in sample_machines() if m.size < 6 and len(m.moves) <= 12] + [
        STRAIGHT, TWO_RINGS] + random_machines(seed, many, most=5) + dense_machines(seed, 3, 5, 12)


def expressions(seed, many=100, most=7):
    rng = random.Random(seed)
    return [Expression.read(text) for text in sample_texts()] + [
        random_expression(rng, rng.randint(0, most), rng.choice(["ab", "abc"])) for _ in range(many)]


def machine_or_none(expression):
    try:
        return machine_of(expression)
    except NotReversible:
        return None


def turned_about(expression, told):
    """The reading of the word from behind, by the expression from behind, that a reading tells."""
    if expression.kind == "letter":
        return told
    if expression.kind == "choice":
        return told[0], turned_about(expression.parts[told[0]], told[1])
    if expression.kind in ("one", "row"):
        return tuple(turned_about(part, item) for part, item in zip(expression.parts, told))[::-1]
    return tuple(turned_about(expression.parts[0], item) for item in told)[::-1]


def numbered_by(machine, order):
    """A machine whose states have the numbers that order gives them."""
    moves = tuple(sorted((order[source], sign, order[target]) for source, sign, target in machine.moves))
    return Machine(machine.size, order[machine.first], order[machine.last], moves)


def renamed_in(expression, names):
    return Expression.read("".join(names.get(sign, sign) for sign in str(expression)))


class FlatterExpressionsTest(unittest.TestCase):

    def test_flatter_than_the_rank(self):
        many = 0
        for machine in machines(601):
            whole = rank(machine)
            for expression in expressions(602):
                if expression.depth < whole:
                    word = parting_word(machine, expression)
                    self.assertIs((word in machine) != (word in expression), True)
                    self.assertIsNone(table(machine, expression))
                    self.assertIs(finding_holds(("apart", str(machine), str(expression), word)), True)
                    found = machine_or_none(expression)
                    self.assertFalse(found is not None and found.is_same(machine))
                    if found is not None:
                        self.assertLessEqual(rank(found), expression.depth)
                    many += 1
        self.assertGreater(many, 500)

    def test_no_expression_is_flatter_than_the_rank_of_its_machine(self):
        for expression in expressions(603, 500):
            machine = machine_or_none(expression)
            if machine is not None and machine.size <= 8:
                self.assertLessEqual(rank(machine), expression.depth)
                if machine.size <= 5:
                    self.assertEqual(expression_for(machine).depth, rank(machine))

    def test_nests_show_that_none_is_flatter(self):
        for machine in machines(604):
            for depth in range(rank(machine)):
                paper = judge(machine, depth)
                self.assertEqual(paper[0], "nest")
                self.assertIs(judge_holds(machine, depth, paper), True)
                self.assertIs(finding_holds(("paper", str(machine), depth, paper)), True)


class ThereAndBackTest(unittest.TestCase):

    def test_machine_of_a_machines_expression(self):
        rng = random.Random(611)
        for machine in machines(612, 60):
            for told in (None, levels(machine), levels_of_any_kind(rng, machine)):
                expression = expression_for(machine, levels=told)
                self.assertEqual(machine_of(expression), machine.numbered())
                self.assertIsNone(witness(expression))

    def test_expression_of_an_expressions_machine(self):
        many = 0
        for expression in expressions(613, 300):
            machine = machine_or_none(expression)
            if machine is not None and machine.size <= 5 and len(machine.moves) <= 12:
                other = expression_for(machine)
                self.assertEqual(machine_of(other), machine)
                self.assertLessEqual(other.depth, expression.depth)
                for word in machine.words(most=5):
                    self.assertTrue(word in other and word in expression)
                many += 1
        self.assertGreater(many, 100)

    def test_backward(self):
        for machine in machines(614):
            expression = expression_for(machine)
            self.assertEqual(machine_of(expression.backward()), machine.backward().numbered())
            self.assertEqual(rank(machine.backward()), rank(machine))
        for expression in expressions(615, 300):
            machine, turned = machine_or_none(expression), machine_or_none(expression.backward())
            self.assertIs(machine is None, turned is None)
            if machine is not None:
                self.assertTrue(turned.is_same(machine.backward()))
                self.assertEqual(turned, machine.backward().numbered())

    def test_same_words_or_a_parting_word_or_a_witness(self):
        for machine, expression in itertools.product(machines(616, 15), expressions(617, 60)):
            found = machine_or_none(expression)
            same = table(machine, expression) is not None
            self.assertIs(same, found is not None and found.is_same(machine))
            self.assertIs(same, parting_word(machine, expression) is None)


class WordsTest(unittest.TestCase):

    def test_readings_turned_about(self):
        for machine in machines(621):
            expression = expression_for(machine)
            for word in itertools.islice(machine.words(most=7), 25):
                told = reading(expression, word)
                turned = turned_about(expression, told)
                self.assertIs(reading_holds(expression.backward(), word[::-1], turned), True)
                self.assertEqual(rounds_of(expression.backward(), turned), rounds_of(expression, told))
                self.assertEqual(turned_about(expression.backward(), turned), told)
        for expression in expressions(622):
            for word in ("", "a", "ab", "ba", "aab", "abab"):
                told, turned = reading(expression, word), reading(expression.backward(), word[::-1])
                self.assertIs(told is None, turned is None)
                if told is not None:
                    self.assertIs(reading_holds(expression, word, turned_about(expression.backward(), turned)), True)

    def test_each_word_walks_through_the_machine(self):
        for machine in machines(623):
            expression = expression_for(machine)
            pairs = table(machine, expression)
            for word in itertools.islice(machine.words(most=8), 30):
                self.assertIs(reading_holds(expression, word, reading(expression, word)), True)
                walk, lot = Walk(machine), (-1,)
                for sign in word:
                    self.assertIn((walk.state, lot), pairs)
                    self.assertIs(is_ending(expression, lot), walk.is_done)
                    walk.go(sign)
                    lot = lot_behind(expression, lot, sign)
                self.assertIn((walk.state, lot), pairs)
                self.assertIs(walk.is_done, True)
                self.assertEqual((walk.word, walk.state), (word, machine.state_of(word)))
                for _ in word:
                    walk.undo()
                self.assertEqual(walk.state, machine.first)

    def test_walks_are_beginnings_of_words(self):
        rng = random.Random(624)
        for machine in machines(625):
            walk = Walk(machine)
            for _ in range(15):
                signs = [sign for sign in LETTERS if machine.after(walk.state, sign) is not None]
                if signs:
                    walk.go(rng.choice(signs))
                self.assertEqual(machine.state_of(walk.word), walk.state)
                self.assertIs(walk.word in machine, walk.is_done)

    def test_joined_machines(self):
        for one, other in (((corridor(2)), ring(2).renamed(a="c")), (ring(2), ring(2).renamed(a="b"))):
            both = one & other
            expression = expression_for(both)
            self.assertEqual(machine_of(expression), both.numbered())
            for word in both.words(most=6):
                told = reading(expression, word)
                self.assertIs(reading_holds(expression, word, told), True)
                self.assertIn("".join(sign for sign in word if sign in one.letters), one)
                self.assertIn("".join(sign for sign in word if sign in other.letters), other)


class OtherNamesTest(unittest.TestCase):

    def test_other_letters(self):
        rng = random.Random(631)
        for machine in machines(632):
            names = dict(zip(machine.letters, rng.sample(LETTERS, len(machine.letters))))
            other = machine.renamed(**names)
            states = tuple(range(machine.size))
            self.assertEqual((rank(other), knots(other, states)), (rank(machine), knots(machine, states)))
            self.assertIs(levels_hold(other, levels(machine)), True)
            self.assertIs(nest_holds(other, nest(machine)), True)
            if len(machine.moves) <= 10:
                cuts = {frozenset((s, names[sign], t) for s, sign, t in cut) for cut in least_cuts(machine)}
                self.assertEqual({frozenset(cut) for cut in least_cuts(other)}, cuts)
            expression = renamed_in(expression_for(machine), names)
            self.assertEqual(machine_of(expression), other.numbered())
            for depth in range(4):
                self.assertEqual(judge(other, depth)[0], judge(machine, depth)[0])

    def test_states_numbered_otherwise(self):
        rng = random.Random(633)
        for machine in machines(634):
            order = rng.sample(range(machine.size), machine.size)
            other = numbered_by(machine, order)
            self.assertEqual(other.numbered(), machine.numbered())
            self.assertEqual(rank(other), rank(machine))
            states = tuple(range(machine.size))
            self.assertEqual(knots(other, states), tuple(sorted(
                tuple(sorted(order[state] for state in knot)) for knot in knots(machine, states))))
            given = tuple(levels(machine)[order.index(state)] for state in range(machine.size))
            self.assertIs(levels_hold(other, given), True)
            if len(machine.moves) <= 10:
                cuts = {frozenset((order[s], sign, order[t]) for s, sign, t in cut) for cut in least_cuts(machine)}
                self.assertEqual({frozenset(cut) for cut in least_cuts(other)}, cuts)
            expression = expression_for(machine)
            self.assertEqual(table(other, expression), tuple(sorted(
                (order[state], lot) for state, lot in table(machine, expression))))
            self.assertIsNone(parting_word(other, expression))
            for depth in range(4):
                self.assertEqual(judge(other, depth)[0], judge(machine, depth)[0])
            words = [list(itertools.islice(same.words(most=5), 30)) for same in (machine, other)]
            self.assertEqual(words[0], words[1])

    def test_other_letters_in_expressions(self):
        for expression in expressions(635):
            names = dict(zip("abc", "zxy"))
            other = renamed_in(expression, names)
            found, told = witness(expression), witness(other)
            self.assertIs(found is None, told is None)
            if found is not None:
                self.assertIs(witness_holds(other, tuple(
                    "".join(names.get(sign, sign) for sign in word) for word in found)), True)


class TextsTest(unittest.TestCase):

    def test_what_is_read_from_texts_is_told_the_same(self):
        rng = random.Random(641)
        for machine in machines(642):
            expression = expression_for(machine, levels=levels_of_any_kind(rng, machine))
            other, again = Machine.read(str(machine)), Expression.read(str(expression))
            for function in (rank, levels, nest, expression_for):
                self.assertEqual(function(other), function(machine))
            for depth in range(4):
                self.assertEqual(judge(other, depth), judge(machine, depth))
            self.assertEqual(table(other, again), table(machine, expression))
            self.assertIs(table_holds(other, again, table(machine, expression)), True)
            self.assertEqual(machine_of(again), machine_of(expression))
            for word in itertools.islice(machine.words(most=5), 10):
                self.assertEqual(reading(again, word), reading(expression, word))
            console = Console()
            console.run("machine " + str(machine).replace("\n", ";"))
            self.assertEqual(console.run("rank"), str(rank(machine)))
            self.assertEqual(console.run(f"apart {expression}"), "=")
            self.assertEqual(console.run(f"from {expression}"), "ok")
            self.assertEqual(Machine.read(console.run("show").replace(";", "\n")), machine_of(expression))
        for expression in expressions(643):
            again = Expression.read(str(expression))
            self.assertEqual(witness(again), witness(expression))
            self.assertEqual(machine_or_none(again), machine_or_none(expression))

    def test_findings_console_and_functions_agree(self):
        for machine, expression in itertools.product(machines(644, 8), expressions(645, 30)):
            console = Console()
            console.run("machine " + str(machine).replace("\n", ";"))
            answer = console.run(f"apart {expression}")
            found = table(machine, expression)
            if answer == "=":
                self.assertIs(finding_holds(("same", str(machine), str(expression), found)), True)
            else:
                word = answer.replace("-", "")
                self.assertEqual(word, parting_word(machine, expression))
                self.assertIs(finding_holds(("apart", str(machine), str(expression), word)), True)
                self.assertIs(console.run("takes " + answer) == "yes", word not in expression)


class ArgumentsTest(unittest.TestCase):

    def test_no_argument_is_changed_and_the_same_is_returned_again(self):
        for machine in machines(651, 20):
            expression = expression_for(machine)
            found, told, paper = table(machine, expression), levels(machine), judge(machine, 0)
            finding = ("paper", str(machine), 0, paper)
            before = shown([machine, expression, found, told, paper, finding])
            for _ in range(2):
                self.assertEqual(machine_of(expression), machine_of(expression=expression))
                self.assertIsNone(witness(expression=expression))
                self.assertIs(witness_holds(expression=expression, thing=("", "", "", "")), False)
                self.assertIs(finding_holds(thing=finding), finding_holds(finding))
                self.assertIs(finding_holds(thing=("levels", str(machine), told)), True)
                self.assertEqual(expression_for(machine, levels=told), expression_for(machine=machine, levels=told))
                walk = Walk(machine=machine)
                for sign in next(machine.words(), ""):
                    walk.go(letter=sign)
                self.assertIs(walk.tried(action=lambda given: given.is_done), True)
                self.assertEqual(Console().run(command=f"from {expression}"), "ok")
            self.assertEqual(shown([machine, expression, found, told, paper, finding]), before)
        for expression in expressions(652, 60):
            before = shown(expression)
            self.assertEqual(witness(expression), witness(expression))
            self.assertEqual(machine_or_none(expression), machine_or_none(expression))
            self.assertEqual(shown(expression), before)

    def test_a_walk_is_changed_by_its_own_methods_alone(self):
        machine = corridor(4)
        walk = Walk(machine)
        walk.go("a")
        for function in (rank, levels, nest, least_cuts, expression_for, Machine.numbered, Machine.backward):
            function(walk.machine)
        walk.is_done, walk.state, walk.word, len(walk), walk == walk
        self.assertEqual((walk.state, walk.word), (1, "a"))

    def test_results_do_not_depend_on_other_calls(self):
        some = expressions(653, 40)
        first = [(witness(expression), shown(machine_or_none(expression))) for expression in some]
        again = [(witness(expression), shown(machine_or_none(expression))) for expression in some[::-1]][::-1]
        self.assertEqual(first, again)

    def test_objects_are_equal_to_no_other_kind(self):
        things = [ring(1), Expression.read("a*"), Walk(ring(1)), Console(), NotReversible(None), "a*", (), None, 0]
        for one, other in itertools.permutations(things, 2):
            self.assertFalse(one == other)
            self.assertTrue(one != other)


if __name__ == "__main__":
    unittest.main()
