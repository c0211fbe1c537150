"""The makers of point 13."""

import unittest

from loopsdeep.machines import Machine
from loopsdeep.makers import all_ways, corridor, ring
from tests.samples import LETTERS, all_words, words_of

SIZES = range(1, 21)


class PartsTest(unittest.TestCase):

    def check(self, maker, size, moves):
        machine = maker(size)
        self.assertEqual(machine, Machine(size, 0, 0, tuple(sorted(moves))))
        self.assertEqual((machine.size, machine.first, machine.last), (size, 0, 0))
        self.assertEqual(machine.moves, tuple(sorted(moves)))
        self.assertEqual(maker(size=size), machine)
        self.assertEqual(maker(size), maker(size))

    def test_ring(self):
        for size in SIZES:
            self.check(ring, size, [(s, "a", t) for s in range(size) for t in range(size) if (s + 1 - t) % size == 0])

    def test_corridor(self):
        for size in SIZES:
            self.check(corridor, size, [(s, "a" if s < t else "b", t) for s in range(size) for t in range(size)
                                        if abs(s - t) == 1])

    def test_all_ways(self):
        for size in SIZES:
            self.check(all_ways, size, [(s, " abcdefghijklmnopqrst"[(t - s) % size], t) for s in range(size)
                                        for t in range(size) if s != t])

    def test_least_sizes(self):
        self.assertEqual(ring(1).moves, ((0, "a", 0),))
        self.assertEqual(corridor(1).moves, ())
        self.assertEqual(all_ways(1).moves, ())
        self.assertEqual(ring(2).moves, all_ways(2).moves)
        self.assertEqual(corridor(2).moves, ((0, "a", 1), (1, "b", 0)))
        self.assertEqual(all_ways(3).moves, (
            (0, "a", 1), (0, "b", 2), (1, "a", 2), (1, "b", 0), (2, "a", 0), (2, "b", 1)))

    def test_sizes_somewhat_beyond(self):
        self.assertEqual(len(ring(30)), 30)
        self.assertEqual(len(corridor(30)), 30)
        self.assertEqual(all_ways(27).letters, LETTERS)


class WordsTest(unittest.TestCase):

    def test_ring(self):
        for size in SIZES:
            for many in range(61):
                self.assertIs("a" * many in ring(size), many % size == 0)

    def test_corridor(self):
        words = all_words("ab", 8)
        for size in SIZES:
            machine = corridor(size)
            for word in words:
                heights = [word[:at].count("a") - word[:at].count("b") for at in range(len(word) + 1)]
                inside = min(heights) >= 0 and max(heights) < size and heights[-1] == 0
                self.assertIs(word in machine, inside)

    def test_all_ways(self):
        for size in SIZES:
            machine = all_ways(size)
            for word in all_words(machine.letters, 2):
                self.assertIs(word in machine, sum(ord(sign) - 96 for sign in word) % size == 0)
        self.assertEqual(list(all_ways(4).words(most=5)), words_of(all_ways(4), 5))


if __name__ == "__main__":
    unittest.main()
