"""Machines of any value: point 4, and the interface's section on machines."""

import random
import unittest

from loopsdeep.errors import BadMachine
from loopsdeep.machines import Machine, is_word
from loopsdeep.makers import all_ways, corridor, ring
from tests.samples import LETTERS, closure, made_otherwise, odd_values, random_machines, sample_machines


def whole(thing):
    return type(thing) is int


def expected_part(size, first, last, moves):
    """The part that is not as described, in a list, or an empty list; worked out from the words of the interface."""
    if not whole(size) or size not in range(1, 1000):
        return ["size"]
    for name, thing in (("first", first), ("last", last)):
        if not whole(thing) or thing not in range(size):
            return [name]
    if type(moves) is not tuple:
        return ["moves"]
    for move in moves:
        if not (type(move) is tuple and len(move) == 3 and whole(move[0]) and whole(move[2])
                and type(move[1]) is str and move[1] in list(LETTERS)
                and move[0] in range(size) and move[2] in range(size)):
            return [move]
    if any(not one < other for one, other in zip(moves, moves[1:])):
        return ["order"]
    for end in (0, 2):
        for place, move in enumerate(moves):
            if any(other[1] == move[1] and other[end] == move[end] for other in moves[:place]):
                return [move]
    ahead = closure(first, [(s, t) for s, _, t in moves])
    behind = closure(last, [(t, s) for s, _, t in moves])
    return sorted(set(range(size)) - (ahead & behind))[:1]


class MachineCase(unittest.TestCase):

    def check(self, size, first, last, moves):
        expected = expected_part(size, first, last, moves)
        if expected:
            with self.assertRaises(BadMachine) as context:
                Machine(size, first, last, moves)
            part = context.exception.part
            self.assertEqual((type(part), part), (type(expected[0]), expected[0]))
            if part not in ("size", "first", "last", "moves", "order") and not whole(part):
                self.assertTrue(any(part is move for move in moves))
        else:
            machine = Machine(size, first, last, moves)
            self.assertIs(machine.size, size)
            self.assertIs(machine.first, first)
            self.assertIs(machine.last, last)
            self.assertIs(machine.moves, moves)

    def refuses(self, part, *parts):
        with self.assertRaises(BadMachine) as context:
            Machine(*parts)
        self.assertEqual((type(context.exception.part), context.exception.part), (type(part), part))


class PartsTest(MachineCase):

    def test_size(self):
        for size in (0, -1, 1000, 10 ** 39, True, None, "1", (1,), [1]):
            self.refuses("size", size, None, None, None)
        self.assertEqual(Machine(1, 0, 0, ()).size, 1)
        self.assertEqual(len(ring(999)), 999)

    def test_first_and_last(self):
        for state in (-1, 2, True, False, None, "0", (0,), 10 ** 39):
            self.refuses("first", 2, state, None, None)
            self.refuses("last", 2, 0, state, None)
        self.refuses("first", 1, 1, 1, ())

    def test_moves(self):
        for moves in (None, [], [(0, "a", 1)], {}, "", 0, True):
            self.refuses("moves", 2, 0, 1, moves)

    def test_item_of_moves(self):
        good = (0, "a", 1)
        for item in (None, 0, "", (), [0, "a", 1], (0, "a"), (0, "a", 1, 1), (False, "a", 1), (0, "a", True),
                     (0, "A", 1), (0, "", 1), (0, "ab", 1), (0, 1, 1), (0, None, 1), (-1, "a", 1), (2, "a", 1),
                     (0, "a", 2), (0, "a", -1), ("0", "a", 1), (0, ["a"], 1), (0, "{", 1), (0, "`", 1), (0, ("a",), 1),
                     ((0,), "a", 1), ([], "a", 1), (0, {}, 1)):
            self.refuses(item, 2, 0, 1, (item,))
            self.refuses(item, 2, 0, 1, (good, item, None))
            self.refuses(item, 2, 0, 1, (good, good, item))

    def test_order(self):
        self.refuses("order", 2, 0, 1, ((0, "b", 1), (0, "a", 1)))
        self.refuses("order", 2, 0, 1, ((0, "a", 1), (0, "a", 1)))
        self.refuses("order", 2, 0, 1, ((1, "a", 1), (0, "b", 1), (0, "b", 0)))
        self.refuses("order", 3, 0, 0, ((0, "a", 2), (0, "a", 1)))
        self.assertEqual(len(Machine(11, 0, 10, tuple((k, "a", k + 1) for k in range(10)))), 11)

    def test_move_that_leaves(self):
        self.refuses((0, "a", 1), 2, 0, 1, ((0, "a", 0), (0, "a", 1)))
        self.refuses((1, "b", 2), 3, 0, 1, ((0, "a", 1), (0, "b", 1), (1, "b", 1), (1, "b", 2)))
        # The move that leaves comes before the one that enters, wherever they stand.
        self.refuses((2, "a", 1), 3, 0, 0, ((0, "a", 0), (1, "a", 0), (2, "a", 0), (2, "a", 1)))

    def test_move_that_enters(self):
        self.refuses((1, "a", 0), 2, 0, 1, ((0, "a", 0), (1, "a", 0)))
        self.refuses((2, "b", 1), 3, 0, 1, ((0, "a", 1), (0, "b", 1), (1, "a", 2), (2, "b", 1)))

    def test_state_on_no_path(self):
        self.refuses(0, 2, 0, 1, ())
        self.refuses(1, 2, 0, 0, ())
        self.refuses(1, 2, 0, 0, ((0, "a", 1),))
        self.refuses(1, 2, 0, 0, ((1, "a", 0),))
        self.refuses(2, 4, 0, 1, ((0, "a", 1), (2, "a", 3), (3, "a", 2)))
        self.refuses(0, 3, 1, 2, ((0, "a", 2), (1, "b", 2)))
        self.refuses(998, 999, 0, 997, tuple((k, "a", k + 1) for k in range(997)))

    def test_several_things_wrong(self):
        self.refuses("size", 0, -1, -1, [])
        self.refuses("first", 2, True, True, [None])
        self.refuses("last", 2, 0, 2, [None])
        self.refuses((), 2, 0, 1, ((1, "b", 1), (0, "a", 1), ()))
        self.refuses("order", 3, 0, 1, ((0, "a", 1), (0, "a", 0)))

    def test_machines_made_otherwise(self):
        rng = random.Random(4)
        machines = sample_machines()[4:] + random_machines(5, 40)
        for _ in range(6000):
            machine = rng.choice(machines)
            parts = (machine.size, machine.first, machine.last, machine.moves)
            for _ in range(rng.choice([1, 1, 1, 2, 3])):
                parts = made_otherwise(rng, tuple(parts))
            if len(parts) == 4:
                self.check(*parts)

    def test_any_values(self):
        for value in odd_values():
            self.check(value, 0, 0, ())
            self.check(1, value, 0, ())
            self.check(1, 0, value, ())
            self.check(1, 0, 0, value)
            self.check(1, 0, 0, (value,))
            self.check(2, 0, 1, ((0, "a", 1), value))
            self.check(1, 0, 0, ((value, "a", 0),))
            self.check(1, 0, 0, ((0, value, 0),))
            self.check(1, 0, 0, ((0, "a", value),))
            self.check(value, value, value, value)

    def test_by_name(self):
        machine = Machine(moves=((0, "a", 1),), last=1, first=0, size=2)
        self.assertEqual(machine, Machine(2, 0, 1, ((0, "a", 1),)))
        with self.assertRaises(TypeError):
            Machine(1, 0, 0)


class ObjectTest(unittest.TestCase):

    def test_length(self):
        for machine in sample_machines() + [ring(400)]:
            self.assertEqual(len(machine), machine.size)

    def test_letters(self):
        self.assertEqual(Machine(1, 0, 0, ()).letters, "")
        self.assertEqual(Machine(1, 0, 0, ((0, "b", 0), (0, "z", 0))).letters, "bz")
        self.assertEqual(corridor(5).letters, "ab")
        self.assertEqual(all_ways(20).letters, LETTERS[:19])
        self.assertEqual(Machine(2, 1, 0, ((0, "z", 1), (1, "c", 0))).letters, "cz")

    def test_equality(self):
        machines = sample_machines()
        for place, machine in enumerate(machines):
            again = Machine(machine.size, machine.first, machine.last, tuple(list(machine.moves)))
            self.assertTrue(machine == again)
            self.assertFalse(machine != again)
            for other in machines[:place]:
                same = (machine.size, machine.first, machine.last, machine.moves) == (
                    other.size, other.first, other.last, other.moves)
                self.assertIs(machine == other, same)
                self.assertIs(machine != other, not same)

    def test_equality_looks_at_each_attribute(self):
        loops = ((0, "a", 1), (1, "a", 0))
        machines = [Machine(2, first, last, loops) for first in (0, 1) for last in (0, 1)]
        for one in machines:
            for other in machines:
                self.assertIs(one == other, one is other)
        self.assertFalse(Machine(1, 0, 0, ()) == Machine(1, 0, 0, ((0, "a", 0),)))

    def test_equal_to_no_other_value(self):
        for value in odd_values():
            if not isinstance(value, Machine):
                self.assertIs(ring(2) == value, False)
                self.assertIs(value == ring(2), False)
                self.assertIs(ring(2) != value, True)


class IsWordTest(unittest.TestCase):

    def test_words(self):
        for word in ("", "a", "z", "abc", LETTERS, "a" * 4000):
            self.assertIs(is_word(word), True)
            self.assertIs(is_word(thing=word), True)

    def test_other_values(self):
        for value in ("A", "a b", "-", "1", "a\n", "\n", "{", "`", "aZ", "a" * 3999 + "?", "\u00e4", "\u00b5"):
            self.assertIs(is_word(value), False)
        for value in odd_values():
            if not isinstance(value, str):
                self.assertIs(is_word(value), False)


if __name__ == "__main__":
    unittest.main()
