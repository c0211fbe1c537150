"""Walks: point 14, and the interface's section on walks."""

import random
import unittest

from loopsdeep.errors import LoopError, NoMove, NothingToUndo
from loopsdeep.expressions import letter
from loopsdeep.machines import Machine
from loopsdeep.makers import all_ways, corridor, ring
from loopsdeep.walks import Walk
from tests.samples import LETTERS, end_of, odd_values, random_machines, sample_machines, shown


class OwnError(Exception):
    pass


class WalkTest(unittest.TestCase):

    def check(self, walk, machine, word):
        """That the walk is where the word leads from the first state."""
        self.assertIs(walk.machine, machine)
        self.assertEqual((walk.state, walk.word, len(walk)), (end_of(machine, word), word, len(word)))
        self.assertIs(type(walk.state), int)
        self.assertIs(walk.is_done, end_of(machine, word) == machine.last)

    def step(self, rng, walk, machine, word):
        """One more step in the walk and in the word, if a move leaves the state."""
        signs = [sign for source, sign, _ in machine.moves if source == walk.state]
        if not signs:
            return word
        sign = rng.choice(signs)
        self.assertIsNone(walk.go(sign))
        return word + sign


class StepsTest(WalkTest):

    def test_each_step(self):
        rng = random.Random(301)
        for machine in sample_machines() + random_machines(302, 60):
            text = shown(machine)
            walk, word = Walk(machine), ""
            self.check(walk, machine, "")
            for _ in range(60):
                if word and rng.random() < 0.4:
                    self.assertIsNone(walk.undo())
                    word = word[:-1]
                else:
                    word = self.step(rng, walk, machine, word)
                self.check(walk, machine, word)
            while word:
                walk.undo()
                word = word[:-1]
                self.check(walk, machine, word)
            self.assertEqual(shown(machine), text)

    def test_known(self):
        walk = Walk(machine=corridor(3))
        self.assertIs(walk.is_done, True)
        for sign, state in ("a", 1), ("a", 2), ("b", 1), ("b", 0), ("a", 1):
            walk.go(letter=sign)
            self.assertEqual((walk.state, walk.is_done), (state, state == 0))
        self.assertEqual((walk.word, len(walk)), ("aabba", 5))
        walk.undo()
        self.assertEqual((walk.word, walk.state, walk.is_done), ("aabb", 0, True))
        walk = Walk(Machine(2, 1, 0, ((1, "b", 0),)))
        self.assertEqual((walk.state, walk.word, walk.is_done, len(walk)), (1, "", False, 0))
        walk.go("b")
        self.assertEqual((walk.state, walk.word, walk.is_done, len(walk)), (0, "b", True, 1))

    def test_long_walk(self):
        machine = ring(20)
        walk = Walk(machine)
        for _ in range(500):
            walk.go("a")
        self.check(walk, machine, "a" * 500)
        for _ in range(500):
            walk.undo()
        self.check(walk, machine, "")

    def test_by_other_letters_between_the_same_states(self):
        machine = Machine(2, 0, 1, ((0, "a", 1), (0, "b", 1), (1, "a", 0), (1, "c", 1)))
        walk = Walk(machine)
        for word in ("a", "ac", "acc", "acca", "accab"):
            walk.go(word[-1])
            self.check(walk, machine, word)
        for end in range(4, -1, -1):
            walk.undo()
            self.check(walk, machine, "accab"[:end])

    def test_two_walks_share_nothing(self):
        machine = corridor(4)
        one, other = Walk(machine), Walk(machine)
        one.go("a")
        one.go("a")
        self.check(other, machine, "")
        other.go("a")
        one.undo()
        one.undo()
        self.check(one, machine, "")
        self.check(other, machine, "a")
        self.assertIs(one.machine, other.machine)
        with self.assertRaises(NothingToUndo):
            one.undo()
        one.tried(lambda walk: other.go("a"))
        self.check(other, machine, "aa")

    def test_equal_to_nothing_else(self):
        walk = Walk(ring(1))
        for thing in (ring(1), "", "a", 0, None, (), [], letter("a")):
            self.assertFalse(walk == thing)
            self.assertFalse(thing == walk)
        self.assertTrue(walk == walk)

    def test_kinds_of_attributes(self):
        walk = Walk(ring(2))
        self.assertIn("machine", vars(walk))
        for name in ("state", "word", "is_done"):
            self.assertIsInstance(vars(Walk)[name], property)
            with self.assertRaises(AttributeError):
                setattr(walk, name, 0)
        with self.assertRaises(TypeError):
            iter(walk)


class ErrorsTest(WalkTest):

    def refuses(self, walk, value):
        before = walk.state, walk.word, walk.is_done, len(walk), shown(walk.machine), shown(value)
        with self.assertRaises(NoMove) as context:
            walk.go(value)
        self.assertIs(context.exception.letter, value)
        self.assertIsInstance(context.exception, LoopError)
        self.assertEqual((walk.state, walk.word, walk.is_done, len(walk), shown(walk.machine), shown(value)), before)

    def test_letters_by_which_no_move_leaves(self):
        rng = random.Random(311)
        for machine in sample_machines() + random_machines(312, 30):
            walk, word = Walk(machine), ""
            for _ in range(8):
                for sign in LETTERS:
                    if (walk.state, sign) not in [(source, by) for source, by, _ in machine.moves]:
                        self.refuses(walk, sign)
                word = self.step(rng, walk, machine, word)
                self.check(walk, machine, word)

    def test_any_value(self):
        for machine in (ring(1), corridor(3), all_ways(4)):
            walk = Walk(machine)
            walk.go("a")
            for value in odd_values() + ["ab", "A", "aa", b"a", ("a",), ["a"], {"a": "a"}, walk, Walk, OwnError]:
                if not (isinstance(value, str) and value == "a"):
                    self.refuses(walk, value)
                elif machine.after(walk.state, value) is None:
                    self.refuses(walk, value)
            self.check(walk, machine, "a")

    def test_nothing_to_undo(self):
        for machine in sample_machines():
            walk = Walk(machine)
            for _ in range(3):
                with self.assertRaises(NothingToUndo) as context:
                    walk.undo()
                self.assertIsInstance(context.exception, LoopError)
                self.check(walk, machine, "")
        walk = Walk(corridor(2))
        walk.go("a")
        walk.undo()
        with self.assertRaises(NothingToUndo):
            walk.undo()
        walk.go("a")
        self.check(walk, walk.machine, "a")


class TriedTest(WalkTest):

    def test_called_once_with_the_walk(self):
        for value in odd_values():
            walk, calls = Walk(corridor(3)), []

            def action(given, value=value):
                calls.append(given)
                given.go("a")
                return value

            self.assertIs(walk.tried(action), value)
            self.assertIs(walk.tried(action=action), value)
            self.assertEqual(len(calls), 2)
            self.assertTrue(all(given is walk for given in calls))
            self.check(walk, walk.machine, "")

    def test_any_steps_within(self):
        rng = random.Random(321)
        for machine in sample_machines() + random_machines(322, 60):
            walk, word = Walk(machine), ""
            for _ in range(12):
                word = self.step(rng, walk, machine, word)

                def action(given, word=word):
                    for _ in range(rng.randrange(25)):
                        if word and rng.random() < 0.6:
                            given.undo()
                            word = word[:-1]
                        else:
                            word = self.step(rng, given, machine, word)
                        self.check(given, machine, word)
                    return word

                walk.tried(action)
                self.check(walk, machine, word)
            for end in range(len(word) - 1, -1, -1):
                walk.undo()
                self.check(walk, machine, word[:end])

    def test_earlier_steps_taken_back_and_others_gone(self):
        machine = Machine(3, 0, 2, ((0, "a", 1), (0, "b", 2), (1, "b", 1), (1, "c", 2), (2, "a", 0)))
        walk = Walk(machine)
        walk.go("a")
        walk.go("c")

        def action(given):
            given.undo()
            given.undo()
            given.go("b")
            given.go("a")
            return given.word, given.state

        self.assertEqual(walk.tried(action), ("ba", 0))
        self.check(walk, machine, "ac")
        walk.undo()
        self.check(walk, machine, "a")
        walk.undo()
        self.check(walk, machine, "")

    def test_errors_go_on(self):
        walk = Walk(corridor(4))
        walk.go("a")
        for error in (OwnError("x"), NoMove("z"), ValueError(), KeyError(1), ZeroDivisionError(), StopIteration(),
                      NothingToUndo(), KeyboardInterrupt(), RecursionError()):

            def action(given, error=error):
                given.go("a")
                given.undo()
                given.undo()
                raise error

            with self.assertRaises(error.__class__) as context:
                walk.tried(action)
            self.assertIs(context.exception, error)
            self.check(walk, walk.machine, "a")

    def test_errors_of_the_walk_go_on(self):
        walk = Walk(corridor(3))
        walk.go("a")

        def too_far(given):
            while True:
                given.go("a")

        def too_far_back(given):
            while True:
                given.undo()

        with self.assertRaises(NoMove):
            walk.tried(too_far)
        self.check(walk, walk.machine, "a")
        with self.assertRaises(NothingToUndo):
            walk.tried(too_far_back)
        self.check(walk, walk.machine, "a")
        with self.assertRaises(TypeError):
            walk.tried(lambda: 0)
        self.check(walk, walk.machine, "a")

    def test_errors_that_the_function_catches(self):
        walk = Walk(corridor(2))

        def action(given):
            given.go("a")
            try:
                given.go("a")
            except NoMove as error:
                return error.letter, given.word

        self.assertEqual(walk.tried(action), ("a", "a"))
        self.check(walk, walk.machine, "")

    def test_within_one_another(self):
        machine = corridor(20)
        walk = Walk(machine)
        walk.go("a")

        def action(given, depth=6):
            word = given.word
            if depth % 2:
                given.undo()
            else:
                given.go("a")
                given.go("a")
            here = given.word
            told = given.tried(lambda inner: action(inner, depth - 1)) if depth else 0
            self.check(given, machine, here)
            with self.assertRaises(OwnError):
                given.tried(failing)
            self.check(given, machine, here)
            self.assertNotEqual(here, word)
            return told + len(here)

        def failing(given):
            given.tried(lambda inner: inner.go("a"))
            given.go("a")
            raise OwnError()

        self.assertEqual(walk.tried(action), 3 + 2 + 4 + 3 + 5 + 4 + 6)
        self.check(walk, machine, "a")

    def test_search_by_trying(self):
        machine = corridor(5)

        def is_reached(word):
            def action(given):
                for sign in word:
                    given.go(sign)
                return given.is_done
            return action

        walk = Walk(machine)
        for word in machine.words(most=8):
            self.assertIs(walk.tried(is_reached(word)), True)
            self.check(walk, machine, "")
        self.assertIs(walk.tried(is_reached("aab")), False)


if __name__ == "__main__":
    unittest.main()
