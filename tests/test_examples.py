"""The examples of points 1 and 18."""

import unittest

from loopsdeep.expressions import Expression, letter
from loopsdeep.findings import finding_holds
from loopsdeep.judging import expression_for, judge, judge_holds, parting_word, table, table_holds
from loopsdeep.machines import Machine
from loopsdeep.makers import corridor, ring
from loopsdeep.positions import lot_behind
from loopsdeep.ranks import knots, levels_hold, nest, nest_holds, rank
from loopsdeep.readings import reading, reading_holds
from loopsdeep.reversing import machine_of, witness, witness_holds

THREE_DEEP = Expression.read("(a (a (a b)* b)* b)*")
TWO_DEEP = Expression.read("(1 | (a ((b a) | (a (a b)* b))* b))")


class ExamplesTest(unittest.TestCase):

    def test_row_of_four_rooms(self):
        self.assertEqual((THREE_DEEP.depth, TWO_DEEP.depth), (3, 2))
        for expression in (THREE_DEEP, TWO_DEEP):
            found = table(corridor(4), expression)
            self.assertIs(table_holds(corridor(4), expression, found), True)
            self.assertIs(judge_holds(corridor(4), 3, ("expression", expression, found)), True)
        self.assertIs(judge_holds(corridor(4), 2, ("expression", TWO_DEEP, table(corridor(4), TWO_DEEP))), True)
        self.assertIs(judge_holds(corridor(4), 1, judge(corridor(4), 1)), True)
        self.assertEqual(judge(corridor(4), 1)[0], "nest")

    def test_rank_and_levels_of_the_rooms(self):
        self.assertEqual(rank(corridor(4)), 2)
        self.assertEqual(knots(corridor(4), (0, 2, 3)), ((2, 3),))
        self.assertIs(levels_hold(corridor(4), (0, 2, 1, 0)), True)
        self.assertIs(levels_hold(ring(2), (5, 0)), True)

    def test_nests(self):
        self.assertEqual(nest(corridor(2)), ((1, (0, 1)),))
        self.assertIs(nest_holds(corridor(4), (
            (1, (0, 1)), (1, (1, 2)), (1, (2, 3)), (2, (0, 1, 2, 3)))), True)
        self.assertEqual(judge(corridor(2), 0), ("nest", ((1, (0, 1)),)))

    def test_ring(self):
        expression = Expression.read("(a a a)*")
        self.assertEqual(expression_for(ring(3)).depth, 1)
        self.assertIsNotNone(table(ring(3), expression))
        self.assertIsNone(parting_word(ring(3), expression_for(ring(3))))

    def test_table(self):
        self.assertEqual(table(ring(1), Expression.read("a*")), ((0, (-1,)), (0, (0,))))
        self.assertEqual(lot_behind(letter("a").loop(), (-1,), "a"), (0,))

    def test_parting_word(self):
        self.assertEqual(parting_word(corridor(3), Expression.read("(a b)*")), "aabb")

    def test_reading(self):
        expression = Expression.read("(a | b)*")
        self.assertEqual(reading(expression, "ab"), ((0, "a"), (1, "b")))
        self.assertIs(reading_holds(expression, "ab", ((0, "a"), (1, "b"))), True)

    def test_witness(self):
        expression = Expression.read("(a | (a b))")
        self.assertIs(witness_holds(expression, ("a", "ab", "", "b")), True)
        self.assertIs(witness_holds(expression, witness(expression)), True)
        self.assertIs(finding_holds(("witness", "(a | (a b))", ("a", "ab", "", "b"))), True)

    def test_machine_of(self):
        self.assertEqual(machine_of(Expression.read("(a b)*")), Machine(2, 0, 0, ((0, "a", 1), (1, "b", 0))))
        for expression in (THREE_DEEP, TWO_DEEP):
            self.assertEqual(machine_of(expression), corridor(4))


if __name__ == "__main__":
    unittest.main()
