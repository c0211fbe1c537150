"""Knots, rank, levels and nests (point 9), the ranks of point 13, and the interface's section on ranks."""

import itertools
import random
import time
import unittest

from loopsdeep.machines import Machine
from loopsdeep.makers import all_ways, corridor, ring
from loopsdeep.ranks import knots, least_cuts, levels, levels_hold, nest, nest_holds, rank
from tests.references import are_levels, height_of, is_nest, knots_told, rank_told
from tests.samples import made_otherwise, odd_values, random_machines, sample_machines, shown

STRAIGHT = Machine(3, 0, 2, ((0, "a", 1), (0, "b", 2), (1, "c", 2)))
EIGHT = Machine(3, 1, 1, ((0, "b", 1), (1, "a", 0), (1, "c", 2), (2, "d", 1)))
TWO_RINGS = Machine(4, 0, 3, ((0, "a", 1), (1, "b", 0), (1, "c", 2), (2, "a", 3), (3, "b", 2)))


def rooms_in_a_ring(size):
    """Rooms in a ring, a step ahead by a and back by b."""
    moves = {(s, "a", (s + 1) % size) for s in range(size)} | {((s + 1) % size, "b", s) for s in range(size)}
    return Machine(size, 0, 0, tuple(sorted(moves)))


def dense_machines(seed, many, size, moves):
    """Machines with just so many states and moves."""
    rng = random.Random(seed)
    found = []
    while len(found) < many:
        letters = rng.choice(["abc", "abcd", "abcdefgh"])
        picked, leaving, entering = [], set(), set()
        triples = list(itertools.product(range(size), letters, range(size)))
        rng.shuffle(triples)
        for source, sign, target in triples:
            if len(picked) < moves and (source, sign) not in leaving and (target, sign) not in entering:
                picked.append((source, sign, target))
                leaving.add((source, sign))
                entering.add((target, sign))
        try:
            found.append(Machine(size, rng.randrange(size), rng.randrange(size), tuple(sorted(picked))))
        except Exception:
            continue
    return found


def small_machines(seed=71, many=60):
    return [m for m in sample_machines() if m.size < 6] + [STRAIGHT, EIGHT, TWO_RINGS] + random_machines(
        seed, many, most=5)


def all_states(machine):
    return tuple(range(machine.size))


def states_chosen(machine):
    return [states for many in range(machine.size + 1) for states in itertools.combinations(all_states(machine), many)]


class KnotsTest(unittest.TestCase):

    def test_all_choices_of_states(self):
        for machine in small_machines():
            text = str(machine)
            for states in states_chosen(machine):
                found = knots(machine, states)
                self.assertEqual(found, knots_told(machine, states))
                self.assertEqual(knots(states=states, machine=machine), found)
            self.assertEqual(str(machine), text)

    def test_larger_machines(self):
        rng = random.Random(72)
        for machine in dense_machines(73, 20, 8, 12) + dense_machines(74, 5, 8, 24):
            for _ in range(15):
                states = tuple(sorted(rng.sample(range(8), rng.randint(0, 8))))
                self.assertEqual(knots(machine, states), knots_told(machine, states))

    def test_none(self):
        for machine in small_machines():
            self.assertEqual(knots(machine, ()), ())
        self.assertEqual(knots(STRAIGHT, (0, 1, 2)), ())
        self.assertEqual(knots(ring(4), (0, 1, 3)), ())

    def test_one_state(self):
        machine = Machine(2, 0, 1, ((0, "a", 1), (1, "a", 0), (1, "b", 1)))
        self.assertEqual(knots(machine, (0,)), ())
        self.assertEqual(knots(machine, (1,)), ((1,),))
        self.assertEqual(knots(machine, (0, 1)), ((0, 1),))
        self.assertEqual(knots(ring(1), (0,)), ((0,),))
        self.assertEqual(knots(corridor(1), (0,)), ())

    def test_several(self):
        self.assertEqual(knots(TWO_RINGS, (0, 1, 2, 3)), ((0, 1), (2, 3)))
        self.assertEqual(knots(TWO_RINGS, (0, 2, 3)), ((2, 3),))
        self.assertEqual(knots(corridor(7), (0, 1, 3, 5, 6)), ((0, 1), (5, 6)))
        machine = Machine(4, 3, 0, ((0, "a", 2), (1, "a", 3), (2, "b", 0), (3, "b", 1), (3, "c", 0)))
        self.assertEqual(knots(machine, (0, 1, 2, 3)), ((0, 2), (1, 3)))


class RankTest(unittest.TestCase):

    def check(self, machine, expected):
        self.assertEqual((type(rank(machine)), rank(machine)), (int, expected))
        self.assertEqual(rank(machine=machine), expected)

    def test_makers(self):
        for size in range(1, 9):
            self.check(ring(size), 1)
            self.check(corridor(size), max(k for k in range(9) if 2 ** k <= size))
            self.check(all_ways(size), size - 1)

    def test_larger_makers(self):
        self.check(ring(20), 1)
        self.check(corridor(20), 4)
        self.check(corridor(16), 4)
        self.check(corridor(15), 3)
        self.check(all_ways(10), 9)

    def test_by_the_point(self):
        for machine in small_machines(75, 200):
            self.check(machine, rank_told(machine))
        for machine in random_machines(76, 100, most=8, letters="abcd"):
            self.check(machine, rank_told(machine))

    def test_eight_states_and_twenty_four_moves(self):
        machines = dense_machines(77, 25, 8, 24)
        begun = time.monotonic()
        found = [rank(machine) for machine in machines]
        self.assertLess(time.monotonic() - begun, 10)
        self.assertEqual(found, [rank_told(machine) for machine in machines])

    def test_no_ways_round(self):
        self.check(STRAIGHT, 0)
        self.check(corridor(1), 0)
        self.check(Machine(1, 0, 0, ()), 0)
        self.check(Machine(8, 0, 7, tuple((k, "a", k + 1) for k in range(7))), 0)

    def test_each_part_of_the_point(self):
        self.check(ring(1), 1)
        self.check(TWO_RINGS, 1)
        self.check(EIGHT, 1)
        self.check(corridor(4), 2)
        self.check(Machine(2, 0, 0, ((0, "a", 1), (0, "b", 0), (1, "a", 0), (1, "b", 1))), 2)
        self.check(rooms_in_a_ring(3), 2)
        self.check(rooms_in_a_ring(4), 2)
        self.check(rooms_in_a_ring(5), 3)

    def test_backward_renamed_and_numbered(self):
        for machine in small_machines(78, 40) + dense_machines(79, 10, 8, 20):
            expected = rank(machine)
            self.check(machine.backward(), expected)
            self.check(machine.numbered(), expected)
            names = dict(zip(machine.letters, "zyxwvutsrqpo"))
            self.check(machine.renamed(**names), expected)
            new = list(range(machine.size))
            random.Random(machine.size).shuffle(new)
            moves = tuple(sorted((new[s], by, new[t]) for s, by, t in machine.moves))
            self.check(Machine(machine.size, new[machine.first], new[machine.last], moves), expected)

    def test_joined(self):
        ones = random_machines(80, 60, most=4, letters="ab") + [corridor(4), ring(3), ring(1), corridor(2)]
        others = random_machines(81, 60, most=2, letters="xy") + [ring(2).renamed(a="z")] * 4
        for one, other in zip(ones, others):
            self.check(one & other, rank_told(one & other))
            self.assertEqual(rank(one & other), rank(other & one))

    def test_joined_with_rank_zero(self):
        line = Machine(2, 0, 1, ((0, "y", 1),))
        fork = Machine(2, 1, 0, ((1, "x", 0), (1, "y", 0), (1, "z", 0)))
        for machine in random_machines(82, 40, most=4, letters="abc") + [corridor(4), ring(4), all_ways(4)]:
            for other in (line, fork, Machine(1, 0, 0, ())):
                self.assertEqual(rank(machine & other), rank(machine))
                self.assertEqual(rank(other & machine), rank(machine))

    def test_joined_rings(self):
        self.check(ring(2) & ring(2).renamed(a="b"), 2)
        self.check(ring(1) & ring(2).renamed(a="b"), 2)
        self.check(ring(1) & ring(1).renamed(a="b"), 1)
        self.check(ring(2) & ring(4).renamed(a="b"), rank_told(ring(2) & ring(4).renamed(a="b")))


class LevelsTest(unittest.TestCase):

    def test_greatest_is_the_rank(self):
        for machine in small_machines(83, 150) + dense_machines(84, 20, 8, 24) + dense_machines(85, 10, 7, 12):
            text = str(machine)
            found = levels(machine)
            self.assertTrue(are_levels(machine, found), (text, found))
            self.assertIs(levels_hold(machine, found), True)
            self.assertEqual(max(found), rank(machine))
            self.assertEqual(levels(machine=machine), found)
            self.assertEqual(str(machine), text)

    def test_known(self):
        self.assertEqual(levels(STRAIGHT), (0, 0, 0))
        self.assertEqual(levels(ring(1)), (1,))
        self.assertEqual(levels(corridor(1)), (0,))
        self.assertEqual(levels(corridor(3)), (0, 1, 0))
        self.assertEqual(levels(EIGHT), (0, 1, 0))

    def test_by_hand(self):
        for machine, held, others in (
                (corridor(4), [(0, 2, 1, 0), (2, 0, 1, 0), (0, 1, 2, 0), (3, 2, 1, 0), (0, 9, 4, 0), (5, 1, 9, 2)],
                 [(0, 1, 1, 0), (0, 1, 0, 1), (1, 0, 0, 1), (0, 0, 1, 0), (0, 2, 2, 0), (0, 1, 0, 0), (2, 0, 0, 1)]),
                (ring(2), [(5, 0), (0, 5), (1, 2), (1, 0)], [(0, 0), (1, 1), (7, 7)]),
                (ring(1), [(1,), (10 ** 39,)], [(0,)]),
                (STRAIGHT, [(0, 0, 0), (1, 1, 1), (0, 3, 3), (7, 0, 7)], []),
                (TWO_RINGS, [(1, 0, 1, 0), (1, 0, 0, 1), (2, 1, 1, 2), (0, 1, 0, 4)], [(0, 0, 1, 0), (1, 1, 1, 0)])):
            for thing in held:
                self.assertTrue(are_levels(machine, thing))
                self.assertIs(levels_hold(machine, thing), True)
                self.assertIs(levels_hold(thing=thing, machine=machine), True)
            for thing in others:
                self.assertFalse(are_levels(machine, thing))
                self.assertIs(levels_hold(machine, thing), False)

    def test_all_small_tuples(self):
        for machine in small_machines(86, 40):
            if machine.size > 4:
                continue
            for thing in itertools.product((0, 1, 2, 4), repeat=machine.size):
                self.assertIs(levels_hold(machine, thing), are_levels(machine, thing))

    def test_none_is_less_than_the_rank(self):
        for machine in small_machines(87, 60):
            if machine.size > 4:
                continue
            greatest = [max(thing) for thing in itertools.product(range(4), repeat=machine.size)
                        if levels_hold(machine, thing)]
            self.assertEqual(min(greatest), rank(machine))

    def test_changed(self):
        rng = random.Random(88)
        machines = small_machines(89, 40) + dense_machines(90, 5, 8, 20)
        many = {True: 0, False: 0}
        for _ in range(3000):
            machine = rng.choice(machines)
            thing = levels(machine)
            for _ in range(rng.choice([1, 1, 2, 3])):
                thing = made_otherwise(rng, thing)
            before = shown(thing)
            expected = are_levels(machine, thing)
            self.assertIs(levels_hold(machine, thing), expected, thing)
            self.assertEqual(shown(thing), before)
            many[expected] += 1
        self.assertGreater(min(many.values()), 100)

    def test_any_value(self):
        for thing in odd_values():
            for machine in (ring(1), corridor(1), corridor(3), STRAIGHT):
                self.assertIs(levels_hold(machine, thing), are_levels(machine, thing))
                for rest in ((), (0,), (0, 0), (1, 0)):
                    self.assertIs(levels_hold(machine, (thing, *rest)), are_levels(machine, (thing, *rest)))
        for thing in ((True, 0), (1, False), [1, 0], (1, 0, 0), (1,), (), (-1, 0), (1, -1), (1, None), ("1", 0),
                      ((1, 0),), "10", {0: 1, 1: 0}, (1, 0) * 2000):
            self.assertIs(levels_hold(ring(2), thing), False)


class NestTest(unittest.TestCase):

    def test_height_is_the_rank(self):
        for machine in small_machines(91, 150) + dense_machines(92, 15, 8, 24) + dense_machines(93, 10, 7, 12):
            text = str(machine)
            found = nest(machine)
            self.assertTrue(is_nest(machine, found), (text, found))
            self.assertIs(nest_holds(machine, found), True)
            self.assertEqual(height_of(found), rank(machine))
            self.assertEqual(nest(machine=machine), found)
            self.assertEqual(str(machine), text)

    def test_rank_zero(self):
        for machine in (STRAIGHT, corridor(1), Machine(2, 0, 1, ((0, "a", 1), (0, "b", 1)))):
            self.assertEqual(nest(machine), ())
            self.assertIs(nest_holds(machine, ()), True)
            self.assertIs(nest_holds(machine, ((1, (0,)),)), False)

    def test_known(self):
        self.assertEqual(nest(corridor(2)), ((1, (0, 1)),))
        self.assertEqual(nest(ring(1)), ((1, (0,)),))
        self.assertEqual(nest(ring(5)), ((1, (0, 1, 2, 3, 4)),))

    def test_by_hand(self):
        rooms = corridor(4)
        pairs = ((1, (0, 1)), (1, (1, 2)), (1, (2, 3)), (2, (0, 1, 2, 3)))
        for machine, held, others in (
                (rooms, [pairs, (), pairs[:3], pairs[:1], pairs[1:2], (pairs[0], pairs[2], pairs[3]),
                         ((1, (0, 1, 2)), *pairs[1:3]), ((1, (0, 1)), (1, (0, 1, 2)), *pairs[1:]),
                         (*pairs[:2], (1, (1, 2, 3)), *pairs[2:])],
                 [pairs[3:], pairs[1:], (pairs[0], pairs[1], pairs[3]), pairs[::-1], (pairs[0], *pairs),
                  ((1, (0, 2)),), ((1, (0,)),), ((1, ()),), ((1, (1, 0)),), ((1, (0, 0, 1)),), ((0, (0, 1)),),
                  ((2, (0, 1)),), ((1, (3, 4)),), ((-1, (0, 1)),), (*pairs, (3, (0, 1, 2, 3))),
                  (*pairs[:3], (3, (0, 1, 2, 3)))]),
                (all_ways(3), [((1, (0, 1)), (1, (0, 2)), (1, (1, 2)), (2, (0, 1, 2)))],
                 [((1, (0, 1)), (1, (0, 2)), (2, (0, 1, 2))), ((1, (0, 1, 2)), (2, (0, 1, 2)))]),
                (Machine(2, 0, 0, ((0, "a", 1), (0, "b", 0), (1, "a", 0), (1, "b", 1))),
                 [((1, (0,)), (1, (1,)), (2, (0, 1))), ((1, (0,)), (1, (0, 1))), ((1, (1,)),)],
                 [((1, (0,)), (2, (0, 1))), ((1, (0,)), (1, (1,)), (2, (0,)))]),
                (TWO_RINGS, [((1, (0, 1)), (1, (2, 3))), ((1, (2, 3)),)], [((1, (0, 1, 2, 3)),), ((1, (1, 2)),)])):
            for thing in held:
                self.assertTrue(is_nest(machine, thing), thing)
                self.assertIs(nest_holds(machine, thing), True)
                self.assertIs(nest_holds(thing=thing, machine=machine), True)
            for thing in others:
                self.assertFalse(is_nest(machine, thing), thing)
                self.assertIs(nest_holds(machine, thing), False)

    def test_greatest_nests(self):
        # All pairs that can be in a nest are one: a nest of the greatest height, with many that no other one needs.
        for machine in small_machines(94, 60) + dense_machines(95, 3, 6, 15):
            found = [(1, states) for states in states_chosen(machine) if knots_told(machine, states) == (states,)]
            for number in range(2, machine.size + 1):
                below = [set(states) for n, states in found if n == number - 1]
                found += [(number, states) for n, states in found if n == 1 and all(
                    any(inner <= set(states) - {state} for inner in below) for state in states)]
            self.assertIs(nest_holds(machine, tuple(sorted(found))), True)
            self.assertEqual(height_of(found), rank(machine))
            self.assertTrue(set(nest(machine)) <= set(found))

    def test_changed(self):
        rng = random.Random(96)
        machines = small_machines(97, 40) + dense_machines(98, 5, 6, 14) + [corridor(8), all_ways(4)]
        many = {True: 0, False: 0}
        for _ in range(3000):
            machine = rng.choice(machines)
            thing = nest(machine)
            if rng.random() < 0.3:
                states = rng.choice(states_chosen(machine))
                thing = tuple(sorted({*thing, (rng.randint(1, 3), states)}))
            for _ in range(rng.choice([0, 1, 1, 2])):
                thing = made_otherwise(rng, thing)
            before = shown(thing)
            expected = is_nest(machine, thing)
            self.assertIs(nest_holds(machine, thing), expected, thing)
            self.assertEqual(shown(thing), before)
            many[expected] += 1
        self.assertGreater(min(many.values()), 100)

    def test_any_value(self):
        for thing in odd_values():
            for machine in (ring(1), corridor(2), STRAIGHT):
                for value in (thing, (thing,), ((1, thing),), ((thing, (0, 1)),), ((1, (thing,)),), ((1, (0, thing)),),
                              ((1, (0, 1)), thing), ((1, (0, 1)), (2, thing)), ((1, (0,), thing),)):
                    self.assertIs(nest_holds(machine, value), is_nest(machine, value), value)
        for thing in (((True, (0, 1)),), ((1, (False, 1)),), ((1, (0, True)),), ((1, [0, 1]),), ([1, (0, 1)],),
                      [(1, (0, 1))], ((1, (0, 1)), (1, (0, 1))), ((1, (0, 1), 0),), ((1,),), ((1, {0: 0, 1: 1}),),
                      ((1, "01"),), (("1", (0, 1)),), ((10 ** 39, (0, 1)),), ((1, (0, 1)), (10 ** 39, (0, 1)))):
            self.assertIs(nest_holds(corridor(2), thing), False)

    def test_many_pairs(self):
        machine = all_ways(8)
        pairs = [(number, states) for states in states_chosen(machine) for number in range(1, len(states))]
        self.assertIs(nest_holds(machine, tuple(sorted(pairs))), True)
        self.assertIs(nest_holds(machine, tuple(sorted(pairs + [(8, all_states(machine))]))), False)


def cuts_told(machine):
    whole = rank_told(machine)
    for many in range(len(machine.moves) + 1):
        found = tuple(cut for cut in itertools.combinations(machine.moves, many)
                      if rank_told(machine, [move for move in machine.moves if move not in cut]) < whole)
        if found:
            return found
    return ()


class LeastCutsTest(unittest.TestCase):

    def check(self, machine, expected):
        text = str(machine)
        self.assertEqual(least_cuts(machine), expected)
        self.assertEqual(least_cuts(machine=machine), expected)
        self.assertEqual(str(machine), text)

    def test_by_the_point(self):
        for machine in random_machines(99, 120, most=5, letters="abc"):
            self.check(machine, cuts_told(machine))

    def test_ten_moves(self):
        for machine in dense_machines(100, 15, 5, 10) + dense_machines(101, 10, 4, 10):
            self.check(machine, cuts_told(machine))

    def test_rank_zero(self):
        for machine in (STRAIGHT, corridor(1)):
            self.check(machine, ())

    def test_rings(self):
        for size in range(1, 8):
            self.check(ring(size), tuple((move,) for move in ring(size).moves))

    def test_moves_beside_one_another(self):
        machine = Machine(2, 0, 0, ((0, "a", 1), (0, "b", 1), (1, "a", 0), (1, "b", 0)))
        self.check(machine, (((0, "a", 1), (0, "b", 1)), ((1, "a", 0), (1, "b", 0))))
        machine = Machine(2, 0, 0, ((0, "a", 1), (0, "b", 1), (1, "c", 0)))
        self.check(machine, (((1, "c", 0),),))
        self.check(Machine(1, 0, 0, ((0, "a", 0), (0, "k", 0), (0, "z", 0))), (((0, "a", 0), (0, "k", 0), (0, "z", 0)),))

    def test_two_rings(self):
        self.check(TWO_RINGS, tuple(((s, by, t), other) for s, by, t in ((0, "a", 1), (1, "b", 0))
                                    for other in ((2, "a", 3), (3, "b", 2))))

    def test_states_on_no_path_count(self):
        # Without the move by c nothing leads to the ring any more, but its rank is what it was.
        machine = Machine(3, 0, 1, ((0, "c", 1), (1, "a", 2), (2, "b", 1)))
        self.check(machine, (((1, "a", 2),), ((2, "b", 1),)))

    def test_rows_and_rings_of_rooms(self):
        self.check(corridor(2), (((0, "a", 1),), ((1, "b", 0),)))
        self.check(corridor(3), cuts_told(corridor(3)))
        self.assertEqual(len(least_cuts(corridor(3))), 4)
        self.check(corridor(4), tuple((move,) for move in corridor(4).moves))
        self.check(corridor(5), cuts_told(corridor(5)))
        for size in (3, 4, 5):
            self.check(rooms_in_a_ring(size), cuts_told(rooms_in_a_ring(size)))
        self.check(all_ways(3), cuts_told(all_ways(3)))

    def test_left_out_they_make_the_rank_less(self):
        for machine in small_machines(102, 30):
            found = least_cuts(machine)
            self.assertEqual(list(found), sorted(set(found)))
            for cut in found:
                self.assertEqual(list(cut), sorted(cut))
                kept = [move for move in machine.moves if move not in cut]
                self.assertLess(rank_told(machine, kept), rank(machine))


if __name__ == "__main__":
    unittest.main()
