"""Words of machines: point 4, and the methods of the interface that follow words."""

import itertools
import unittest

from loopsdeep.machines import Machine
from loopsdeep.makers import all_ways, corridor, ring
from tests.samples import LETTERS, all_words, end_of, odd_values, random_machines, sample_machines, words_of


class StepTest(unittest.TestCase):

    def test_after_and_before(self):
        for machine in sample_machines() + random_machines(11, 40):
            for state in range(machine.size):
                for letter in LETTERS:
                    after = [t for s, by, t in machine.moves if (s, by) == (state, letter)]
                    before = [s for s, by, t in machine.moves if (t, by) == (state, letter)]
                    self.assertEqual(machine.after(state, letter), after[0] if after else None)
                    self.assertEqual(machine.before(state, letter), before[0] if before else None)
                    self.assertEqual(machine.after(letter=letter, state=state), after[0] if after else None)
                    self.assertEqual(machine.before(letter=letter, state=state), before[0] if before else None)

    def test_ends_of_a_row(self):
        machine = corridor(3)
        self.assertEqual([machine.after(state, "a") for state in range(3)], [1, 2, None])
        self.assertEqual([machine.after(state, "b") for state in range(3)], [None, 0, 1])
        self.assertEqual([machine.before(state, "a") for state in range(3)], [None, 0, 1])
        self.assertEqual([machine.before(state, "b") for state in range(3)], [1, 2, None])


class WordTest(unittest.TestCase):

    def test_state_of(self):
        for machine in sample_machines() + random_machines(12, 40):
            for word in all_words("abz", 4):
                self.assertEqual(machine.state_of(word), end_of(machine, word))
                self.assertEqual(machine.state_of(word=word), end_of(machine, word))
                self.assertIs(word in machine, end_of(machine, word) == machine.last)

    def test_empty_word(self):
        self.assertEqual(ring(3).state_of(""), 0)
        self.assertTrue("" in ring(3))
        machine = Machine(2, 0, 1, ((0, "a", 1),))
        self.assertEqual(machine.state_of(""), 0)
        self.assertFalse("" in machine)
        self.assertTrue("a" in machine)
        self.assertFalse("aa" in machine)

    def test_in_of_any_value(self):
        for value in odd_values():
            if not isinstance(value, str):
                self.assertIs(value in ring(1), False)
        for value in ("A", "a a", "1", "a\n", "-", "aA", "a" * 3999 + "{"):
            self.assertIs(value in ring(1), False)
        self.assertIs("a" * 4000 in ring(1), True)
        self.assertIs(["a", "a"] in ring(2), False)
        self.assertIs(("a", "a") in ring(2), False)

    def test_long_words(self):
        self.assertTrue("a" * 200 in ring(20))
        self.assertFalse("a" * 201 in ring(20))
        self.assertEqual(ring(20).state_of("a" * 217), 17)
        self.assertTrue("a" * 399 + "b" * 399 in corridor(400))
        self.assertFalse("a" * 400 + "b" * 400 in corridor(400))
        self.assertEqual(corridor(400).state_of("a" * 300 + "b" * 100), 200)
        self.assertIsNone(corridor(400).state_of("a" * 400))
        self.assertTrue("ab" * 1500 in corridor(2))


class WordsTest(unittest.TestCase):

    def test_most(self):
        for machine in sample_machines() + random_machines(13, 60):
            letters = len(machine.letters)
            for most in range(7 if letters < 3 else 5 if letters < 4 else 3):
                self.assertEqual(list(machine.words(most=most)), words_of(machine, most))

    def test_none_at_all(self):
        machine = Machine(3, 0, 2, ((0, "a", 1), (1, "a", 2)))
        self.assertEqual(list(machine.words(most=0)), [])
        self.assertEqual(list(machine.words(most=1)), [])
        self.assertEqual(list(machine.words(most=2)), ["aa"])
        self.assertEqual(list(machine.words(most=10)), ["aa"])
        self.assertEqual(list(ring(2).words(most=0)), [""])
        self.assertEqual(list(ring(2).words(most=1)), [""])

    def test_order(self):
        machine = Machine(4, 0, 3, ((0, "a", 1), (0, "b", 2), (0, "c", 3), (1, "d", 3), (2, "a", 3), (2, "b", 1)))
        self.assertEqual(list(machine.words()), ["c", "ad", "ba", "bbd"])
        self.assertEqual(list(corridor(3).words(most=4)), ["", "ab", "aabb", "abab"])

    def test_without_most_where_no_path_comes_round(self):
        self.assertEqual(list(Machine(1, 0, 0, ()).words()), [""])
        for machine in random_machines(14, 200):
            words = list(itertools.islice(machine.words(), 40))
            if len(words) < 40:
                self.assertEqual(words, words_of(machine, machine.size))
                self.assertEqual(list(machine.words(most=None)), words)
        path = Machine(400, 0, 399, tuple((k, LETTERS[k % 26], k + 1) for k in range(399)))
        self.assertEqual(list(path.words()), ["".join(LETTERS[k % 26] for k in range(399))])

    def test_without_end(self):
        words = ring(3).words()
        self.assertEqual([next(words) for _ in range(100)], ["a" * (3 * k) for k in range(100)])
        many = list(itertools.islice(all_ways(3).words(), 400))
        self.assertEqual(many, words_of(all_ways(3), 10)[:400])
        self.assertEqual(len(many), 400)

    def test_large_machines(self):
        # Only paths that can still reach the last state are followed: there are far too many others.
        self.assertEqual(len(list(all_ways(20).words(most=4))), 1 + 19 + 19 * 18 + 19 * (361 - 18))
        self.assertEqual(next(all_ways(20).words()), "")
        wide = Machine(30, 0, 29, tuple(sorted(
            [(k, letter, k + 1) for k in range(29) for letter in "ab"] + [(0, "z", 29)])))
        self.assertEqual(next(wide.words()), "z")
        self.assertEqual(list(itertools.islice(wide.words(), 3)), ["z", "a" * 29, "a" * 28 + "b"])

    def test_yields(self):
        with self.assertRaises(TypeError):
            ring(1).words(3)
        machine = ring(2)
        first, second = machine.words(), machine.words()
        self.assertEqual([next(first), next(first), next(second), next(first)], ["", "aa", "", "aaaa"])


if __name__ == "__main__":
    unittest.main()
