"""Machines made of machines: backward, renamed, numbered, is_same and & (the first sentences of point 13)."""

import itertools
import random
import unittest

from loopsdeep.errors import SharedLetter
from loopsdeep.machines import Machine
from loopsdeep.makers import all_ways, corridor, ring
from tests.samples import all_words, odd_values, random_machines, sample_machines, words_of


def shuffled(rng, machine):
    """The same machine with other numbers for its states."""
    new = list(range(machine.size))
    rng.shuffle(new)
    moves = tuple(sorted((new[s], letter, new[t]) for s, letter, t in machine.moves))
    return Machine(machine.size, new[machine.first], new[machine.last], moves)


def others(machine):
    """Machines that differ from a machine by the numbers of its states alone."""
    for new in itertools.permutations(range(machine.size)):
        moves = tuple(sorted((new[s], letter, new[t]) for s, letter, t in machine.moves))
        yield Machine(machine.size, new[machine.first], new[machine.last], moves)


class NumberedTest(unittest.TestCase):

    def test_order_in_which_states_are_met(self):
        machine = Machine(4, 3, 0, ((1, "b", 0), (2, "c", 0), (3, "a", 1), (3, "b", 2)))
        self.assertEqual(machine.numbered(), Machine(4, 0, 3, ((0, "a", 1), (0, "b", 2), (1, "b", 3), (2, "c", 3))))
        # From each state in turn: the states next to the first one come before those behind them.
        machine = Machine(4, 0, 3, ((0, "a", 2), (0, "b", 1), (1, "a", 3), (2, "a", 0), (2, "b", 3)))
        self.assertEqual(machine.numbered().moves, ((0, "a", 1), (0, "b", 2), (1, "a", 0), (1, "b", 3), (2, "a", 3)))

    def test_any_order_of_the_states(self):
        rng = random.Random(21)
        for machine in sample_machines() + random_machines(22, 60):
            numbered = machine.numbered()
            self.assertEqual(numbered.first, 0)
            self.assertEqual(numbered.numbered(), numbered)
            self.assertEqual(shuffled(rng, machine).numbered(), numbered)
            self.assertIn(numbered, list(others(machine)) if machine.size < 5 else [numbered])
            self.assertEqual(list(numbered.words(most=4)), list(machine.words(most=4)))

    def test_machines_that_are_numbered(self):
        for machine in (ring(7), corridor(400), all_ways(9)):
            self.assertEqual(machine.numbered(), machine)

    def test_machine_stays(self):
        machine = Machine(2, 1, 0, ((1, "a", 0),))
        text = str(machine)
        machine.numbered()
        self.assertEqual(str(machine), text)


class SameTest(unittest.TestCase):

    def test_same_words(self):
        rng = random.Random(23)
        for machine in sample_machines() + random_machines(24, 60):
            self.assertIs(machine.is_same(machine), True)
            self.assertIs(machine.is_same(shuffled(rng, machine)), True)
            self.assertIs(shuffled(rng, machine).is_same(other=machine), True)

    def test_other_words(self):
        machines = random_machines(25, 60, most=3, letters="ab")
        for one in machines:
            for other in machines:
                self.assertIs(one.is_same(other), words_of(one, 6) == words_of(other, 6))

    def test_rings_of_other_sizes(self):
        self.assertIs(ring(2).is_same(ring(4)), False)
        self.assertIs(corridor(2).is_same(corridor(3)), False)
        self.assertIs(ring(2).is_same(ring(2).renamed(a="b")), False)


class BackwardTest(unittest.TestCase):

    def test_parts(self):
        machine = Machine(3, 2, 1, ((0, "c", 0), (0, "x", 1), (2, "x", 0)))
        self.assertEqual(machine.backward(), Machine(3, 1, 2, ((0, "c", 0), (0, "x", 2), (1, "x", 0))))
        self.assertEqual(corridor(9).backward().is_same(corridor(9).renamed(a="b", b="a")), True)

    def test_words(self):
        for machine in sample_machines() + random_machines(26, 60):
            backward = machine.backward()
            text = str(machine)
            self.assertEqual((backward.first, backward.last), (machine.last, machine.first))
            self.assertEqual(sorted((t, by, s) for s, by, t in machine.moves), list(backward.moves))
            self.assertEqual(backward.backward(), machine)
            most = 5 if len(machine.letters) < 4 else 3
            self.assertEqual(sorted(word[::-1] for word in machine.words(most=most)),
                             sorted(backward.words(most=most)))
            self.assertEqual(str(machine), text)


class RenamedTest(unittest.TestCase):

    def test_some_letters(self):
        self.assertEqual(corridor(2).renamed(a="z"), Machine(2, 0, 0, ((0, "z", 1), (1, "b", 0))))
        self.assertEqual(corridor(2).renamed(b="c").letters, "ac")
        self.assertEqual(all_ways(4).renamed(b="x", a="y").letters, "cxy")

    def test_moves_ascend_again(self):
        machine = Machine(1, 0, 0, ((0, "a", 0), (0, "b", 0), (0, "c", 0)))
        self.assertEqual(machine.renamed(a="z").moves, ((0, "b", 0), (0, "c", 0), (0, "z", 0)))

    def test_no_letters(self):
        for machine in sample_machines():
            self.assertEqual(machine.renamed(), machine)
            self.assertEqual(machine.renamed(**{letter: letter for letter in machine.letters}), machine)

    def test_exchanged_letters(self):
        exchanged = corridor(3).renamed(a="b", b="a")
        self.assertEqual(exchanged.moves, ((0, "b", 1), (1, "a", 0), (1, "b", 2), (2, "a", 1)))
        self.assertEqual(exchanged.renamed(b="a", a="b"), corridor(3))

    def test_all_letters_moved_on(self):
        machine = all_ways(4)
        moved = machine.renamed(a="b", b="c", c="d")
        table = str.maketrans("abc", "bcd")
        self.assertEqual(list(moved.words(most=4)), [word.translate(table) for word in machine.words(most=4)])

    def test_shared_letter(self):
        for letters, shared in ((dict(a="b"), "b"), (dict(b="a"), "a"), (dict(a="z", b="z"), "z"),
                                (dict(a="c", b="c"), "c"), (dict(a="d", c="b"), "b"), (dict(a="d", b="c"), "c"),
                                (dict(a="d", b="c", c="x"), "d"), (dict(a="d", b="d", c="d"), "d")):
            machine = all_ways(5)
            with self.assertRaises(SharedLetter) as context:
                machine.renamed(**letters)
            self.assertEqual(context.exception.letter, shared)
            self.assertEqual(machine, all_ways(5))

    def test_least_of_several_shared_letters(self):
        for letters, shared in ((dict(a="b", c="d"), "b"), (dict(d="c", b="a"), "a"), (dict(a="y", b="y", c="d"), "d"),
                                (dict(a="z", b="y", c="z", d="y"), "y")):
            with self.assertRaises(SharedLetter) as context:
                all_ways(5).renamed(**letters)
            self.assertEqual(context.exception.letter, shared)


class JoinedTest(unittest.TestCase):

    def test_parts(self):
        one, other = Machine(2, 0, 1, ((0, "b", 1),)), Machine(3, 2, 0, ((1, "c", 0), (2, "a", 1)))
        self.assertEqual(one & other, Machine(6, 2, 3, (
            (0, "b", 3), (1, "b", 4), (1, "c", 0), (2, "a", 1), (2, "b", 5), (4, "c", 3), (5, "a", 4))))
        self.assertEqual(other & one, Machine(6, 4, 1, (
            (0, "b", 1), (2, "b", 3), (2, "c", 0), (3, "c", 1), (4, "a", 2), (4, "b", 5), (5, "a", 3))))

    def test_parts_of_random_machines(self):
        ones, others_ = random_machines(27, 40), random_machines(28, 40, letters="xyz")
        for one, other in zip(ones, others_):
            texts = str(one), str(other)
            both = one & other
            n = other.size
            moves = {(s * n + k, by, t * n + k) for s, by, t in one.moves for k in range(n)}
            moves |= {(k * n + s, by, k * n + t) for s, by, t in other.moves for k in range(one.size)}
            self.assertEqual(both.size, one.size * n)
            self.assertEqual(both.first, one.first * n + other.first)
            self.assertEqual(both.last, one.last * n + other.last)
            self.assertEqual(both.moves, tuple(sorted(moves)))
            self.assertEqual((str(one), str(other)), texts)

    def test_words(self):
        pairs = [(corridor(2), ring(2).renamed(a="x")), (Machine(2, 0, 1, ((0, "c", 1),)), corridor(3)),
                 (Machine(1, 0, 0, ()), ring(2))]
        for one, other in pairs:
            both = one & other
            for word in all_words("abcx", 5):
                mine = "".join(sign for sign in word if sign not in other.letters)
                rest = "".join(sign for sign in word if sign in other.letters)
                self.assertIs(word in both, mine in one and rest in other)

    def test_three_machines(self):
        one, two, three = corridor(2), ring(3).renamed(a="x"), Machine(2, 1, 0, ((1, "m", 0),))
        self.assertEqual((one & two) & three, one & (two & three))
        self.assertTrue((one & two & three).is_same(three & two & one))

    def test_shared_letter(self):
        with self.assertRaises(SharedLetter) as context:
            corridor(2) & ring(2)
        self.assertEqual(context.exception.letter, "a")
        with self.assertRaises(SharedLetter) as context:
            all_ways(5) & Machine(2, 0, 1, ((0, "c", 1), (1, "z", 1)))
        self.assertEqual(context.exception.letter, "c")
        machine = Machine(1, 0, 0, ((0, "b", 0), (0, "d", 0), (0, "z", 0)))
        with self.assertRaises(SharedLetter) as context:
            machine & all_ways(6)
        self.assertEqual(context.exception.letter, "b")

    def test_with_itself(self):
        with self.assertRaises(SharedLetter):
            ring(1) & ring(1)
        self.assertEqual(Machine(1, 0, 0, ()) & Machine(1, 0, 0, ()), Machine(1, 0, 0, ()))

    def test_large_machines(self):
        one, other = corridor(20), ring(20).renamed(a="c")
        both = one & other
        self.assertEqual(len(both), 400)
        self.assertEqual(len(both.moves), 38 * 20 + 20 * 20)
        self.assertTrue("c" * 7 + "a" * 19 + "c" * 13 + "b" * 19 in both)
        self.assertFalse("c" * 7 + "a" * 19 + "c" * 12 + "b" * 19 in both)
        self.assertEqual(Machine.read(str(both)), both)
        self.assertTrue(both.is_same(other & one))

    def test_with_no_machine(self):
        for value in odd_values():
            if not isinstance(value, Machine):
                with self.assertRaises(TypeError):
                    ring(2) & value


if __name__ == "__main__":
    unittest.main()
