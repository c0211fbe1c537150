"""The console: point 16, and the interface's section on the console."""

import random
import unittest

from loopsdeep.console import Console
from loopsdeep.errors import InvalidCommand, LoopError, NoMachine
from loopsdeep.expressions import Expression
from loopsdeep.judging import expression_for, parting_word
from loopsdeep.machines import Machine
from loopsdeep.makers import all_ways, corridor, ring
from loopsdeep.ranks import rank
from loopsdeep.reversing import machine_of
from tests.references import answer_told, rank_told
from tests.samples import (
    odd_values, random_expression, random_machines, sample_machines, sample_texts, shown, text_otherwise)

ROOMS = "machine machine 3;ends 0 0;move 0 a 1;move 1 a 2;move 1 b 0;move 2 b 1"


def on_one_line(machine):
    return str(machine).replace("\n", ";")


def told(machine):
    return "machine " + on_one_line(machine)


def started(*commands):
    console = Console()
    for command in commands:
        console.run(command)
    return console


class ConsoleTest(unittest.TestCase):

    def refuses(self, console, command, kind=InvalidCommand):
        before = shown(command)
        with self.assertRaises(kind) as context:
            console.run(command)
        self.assertIs(context.exception.__class__, kind)
        self.assertEqual(shown(command), before)

    def check(self, console, kept, command):
        """Runs a command on a console that keeps a machine, and returns what it keeps then."""
        expected, after = answer_told(kept, command)
        if isinstance(expected, str):
            answer = console.run(command)
            self.assertIs(type(answer), str)
            self.assertEqual(answer, expected, command)
        else:
            self.refuses(console, command, expected)
        if after is None:
            self.refuses(console, "show", NoMachine)
        else:
            self.assertEqual(console.run("show"), on_one_line(after))
        return after


class AnswersTest(ConsoleTest):

    def test_session(self):
        console = Console()
        for command, answer in (
                (ROOMS, "ok"), ("rank", "1"), ("takes -", "yes"), ("takes a", "no"), ("takes aabb", "yes"),
                ("takes aaabbb", "no"), ("takes z", "no"), ("flat 0", "no"), ("flat 1", "yes"), ("flat 99", "yes"),
                ("show", ROOMS[8:]), ("apart (a b)*", "aabb"), ("apart (a (a b)* b)*", "="), ("apart (a b)+", "-"),
                ("apart (a | b)*", "a"), ("from (a | (a b))", "no"), ("show", ROOMS[8:]), ("from (a b)*", "ok"),
                ("show", "machine 2;ends 0 0;move 0 a 1;move 1 b 0"), ("apart (a b)*", "="), ("apart 1", "ab"),
                ("from 1", "ok"), ("rank", "0"), ("flat 0", "yes"), ("takes -", "yes"), ("takes a", "no"), ("apart 1", "="),
                ("show", "machine 1;ends 0 0"), ("from (b | (a c))", "ok"), ("takes -", "no"), ("takes ac", "yes"),
                ("show", "machine 3;ends 0 2;move 0 a 1;move 0 b 2;move 1 c 2"), (told(corridor(4)), "ok"), ("rank", "2"),
                ("flat 1", "no"), ("flat 2", "yes"), ("from a+", "no"), ("rank", "2"), ("apart b", "-")):
            self.assertEqual(console.run(command=command), answer, command)

    def test_machines(self):
        for machine in [m for m in sample_machines() if m.size < 6] + random_machines(501, 80, most=5):
            console = Console()
            self.assertEqual(console.run(told(machine)), "ok")
            self.assertEqual(console.run("show"), on_one_line(machine))
            self.assertEqual(Machine.read(console.run("show").replace(";", "\n")), machine)
            self.assertEqual(console.run("rank"), str(rank_told(machine)))
            for depth in (0, 1, 2, 3, 9, 10, 98, 99):
                self.assertEqual(console.run(f"flat {depth}"), "yes" if rank_told(machine) <= depth else "no")
            words = list(machine.words(most=4))
            for word in ["", "a", "b", "ab", "aa", "abc", *words[:20]]:
                self.assertEqual(console.run("takes " + (word or "-")), "yes" if word in words else "no")
            self.assertEqual(console.run(f"apart {expression_for(machine)}"), "=")
            self.assertEqual(console.run(f"from {expression_for(machine)}"), "ok")
            self.assertEqual(console.run("show"), on_one_line(machine.numbered()))

    def test_apart(self):
        rng = random.Random(502)
        answers = set()
        for machine in [m for m in sample_machines() if m.size < 6] + random_machines(503, 40, most=5):
            console = started(told(machine))
            for text in sample_texts()[::3] + [str(random_expression(rng, rng.randint(0, 6))) for _ in range(4)]:
                word = parting_word(machine, Expression.read(text))
                answer = console.run("apart " + text)
                self.assertEqual(answer, "=" if word is None else word or "-")
                answers.add(answer)
            self.assertEqual(console.run("show"), on_one_line(machine))
        self.assertLessEqual({"=", "-", "a", "b"}, answers)

    def test_from(self):
        rng = random.Random(504)
        console, kept = Console(), None
        many = {"ok": 0, "no": 0}
        for _ in range(300):
            expression = random_expression(rng, rng.randint(0, 7), rng.choice(["a", "ab", "abc"]))
            answer = answer_told(kept, f"from {expression}")[0]
            kept = self.check(console, kept, f"from {expression}")
            many[answer] += 1
            if answer == "ok":
                self.assertEqual(kept, machine_of(expression))
        self.assertGreater(min(many.values()), 50)

    def test_from_that_is_answered_by_no_changes_nothing(self):
        console = Console()
        self.assertEqual(console.run("from a+"), "no")
        self.refuses(console, "show", NoMachine)
        console.run(ROOMS)
        self.assertEqual(console.run("from a+"), "no")
        self.assertEqual(console.run("show"), ROOMS[8:])

    def test_large_machines(self):
        rooms = corridor(20) & ring(20).renamed(a="c")
        console = started(told(rooms))
        self.assertEqual(console.run("show"), on_one_line(rooms))
        self.assertEqual(console.run("takes " + "a" * 19 + "c" * 20 + "b" * 19), "yes")
        self.assertEqual(console.run("takes " + "a" * 20 + "b" * 20), "no")
        self.assertEqual(console.run("apart (a | b | c)*"), "a")
        self.assertEqual(console.run("from (" + " ".join(["a"] * 60) + ")*"), "ok")
        self.assertEqual(console.run("show"), on_one_line(ring(60)))
        console.run(told(all_ways(5)))
        self.assertEqual(console.run("rank"), "4")

    def test_consoles_share_nothing(self):
        one, other = started(ROOMS), Console()
        self.refuses(other, "rank", NoMachine)
        other.run("from (a b)*")
        self.assertEqual((one.run("show"), other.run("show")), (ROOMS[8:], "machine 2;ends 0 0;move 0 a 1;move 1 b 0"))
        one.run("from a")
        self.assertEqual(other.run("show"), "machine 2;ends 0 0;move 0 a 1;move 1 b 0")
        self.assertFalse(one == other)
        self.assertEqual(one.run("show"), one.run("show"))


class NoMachineTest(ConsoleTest):

    def test_before_the_first_machine(self):
        console = Console()
        for command in ("rank", "show", "takes -", "takes ab", "flat 0", "flat 99", "apart 1", "apart (a b)*"):
            self.refuses(console, command, NoMachine)
            self.refuses(console, command + " ", InvalidCommand)
        with self.assertRaises(LoopError):
            console.run("rank")
        console.run("from 1")
        self.assertEqual(console.run("rank"), "0")

    def test_commands_that_keep_nothing(self):
        console = Console()
        for command in ("from (a | (a b))", "from a+"):
            self.assertEqual(console.run(command), "no")
        for command in ("machine", "machine 1", "from", "from ()", "machine machine 2;ends 0 0"):
            self.refuses(console, command)
        self.refuses(console, "rank", NoMachine)


class InvalidCommandTest(ConsoleTest):

    def all_refuse(self, commands):
        empty, full = Console(), started(ROOMS)
        for command in commands:
            self.assertEqual(answer_told(None, command), (InvalidCommand, None))
            self.refuses(empty, command)
            self.refuses(full, command)
            self.refuses(empty, "rank", NoMachine)
            self.assertEqual(full.run("show"), ROOMS[8:])

    def test_words_left_out_or_more_or_others(self):
        self.all_refuse([
            "", " ", "-", "=", "a", "1", "ok", "machine", "from", "takes", "flat", "apart", "machine ", "from ", "takes ",
            "flat ", "apart ", "rank rank", "rank 1", "show show", "show -", "rank -", "takes a b", "takes - -", "takes a -",
            "flat 1 1", "flat 1 -", "apart a a", "apart a -", "from a a", "from from a", "machine " + ROOMS, "ranks", "RANK",
            "Rank", "Show", "SHOW", "TAKES a", "Takes a", "Flat 1", "FROM a", "Apart a", "take a", "judge 1", "rankrank",
            "takesa", "takes-", "flat1", "froma", "apart1", "machinemachine 1;ends 0 0", "help", "quit", "-rank", "rank;show",
            "rank\nshow", "table a", "machine 1", "a takes", "1 flat", ROOMS[8:], "- takes"])

    def test_blanks_and_line_feeds(self):
        right = ["rank", "show", "takes -", "takes ab", "flat 7", "from a", "apart a", "from (a b)*", "apart (a | b)", ROOMS]
        wrong = []
        for command in right:
            wrong += [" " + command, command + " ", command + "\n", "\n" + command, command + ";"]
            if " " in command:
                wrong += [command.replace(" ", "  ", 1), command.replace(" ", "\n", 1), command.replace(" ", ""),
                          command.replace(" ", "  "), command.replace(" ", "\t", 1)]
        wrong += [ROOMS.replace(";", "\n"), ROOMS.replace(";", "\n", 1), ROOMS.replace(";", " "), ROOMS.replace(";", ";;", 1),
                  ROOMS.replace(";", "; ", 1), ROOMS.replace(";", " ;", 1), ROOMS + "\nmove 2 c 2", "apart (a  b)", "from (a\nb)"]
        self.all_refuse(wrong)

    def test_words_of_takes(self):
        self.all_refuse(["takes " + word for word in (
            "A", "aB", "1", "0", "--", "-a", "a-", "a b", "''", '""', "a1", "*", "a*", "()", "(a)", "{", "`", ".", "a;b")])

    def test_numbers_of_flat(self):
        self.all_refuse(["flat " + number for number in (
            "-1", "+1", "00", "01", "007", "100", "101", "999", "1000", "9" * 3990, "1.0", "1e1", "0x1", "1_0", "-0", "-",
            "a", "one", "1 ", " 1", "1a", "True", "None", "1;", "()", "1,0", "0 0", "\u0661", "\u00b2")])

    def test_numbers_of_flat_that_are_right(self):
        console = started(told(corridor(4)))
        for number in range(100):
            self.assertEqual(console.run(f"flat {number}"), "yes" if number >= 2 else "no")

    def test_texts_of_machines(self):
        self.all_refuse(["machine " + text for text in (
            "machine 0;ends 0 0", "machine 1", "machine 1;", "machine 1;ends 0", "machine 1;ends 0 1", "machine 1;ends 0 0;",
            "machine 01;ends 0 0", "machine 1000;ends 0 0", "machine 2;ends 0 0", "machine 2;ends 0 1;move 0 a 1;move 0 a 1",
            "machine 2;ends 0 1;move 0 b 1;move 0 a 1", "machine 2;ends 0 1;move 0 a 0;move 0 a 1", "Machine 1;ends 0 0",
            "machine 2;ends 0 1;move 0 A 1", "machine 2;ends 0 1;move 0 aa 1", "machine 2;ends 0 1;move 0 a 2",
            "machine 2;ends 0 1;move 1 a 0", "machine 1;ends 0 0 0", "ends 0 0;machine 1", "machine 1,ends 0 0", "(a b)*",
            "a", "machine 3;ends 0 1;move 0 a 1;move 2 a 1", "machine 2;ends 0 1;move 0 a 1;move 1 a 1", ";", "1;0 0")])

    def test_texts_of_expressions(self):
        for name in ("from", "apart"):
            self.all_refuse([f"{name} {text}" for text in (
                "()", "(a)", "a b", "a | b", "ab", "(a b", "a b)", "(a|b)", "(a | b |)", "(a b | c)", "A", "2", "*", "**",
                "a**b", "(a  b)", "( a b)", "(a b )", "-", "=", "a -", "machine 1;ends 0 0", "(a;b)", "a;", "{", "1 1")])

    def test_values_of_other_sorts(self):
        empty, full = Console(), started(ROOMS)
        for value in odd_values() + [("rank",), ["rank"], {"rank": 1}, b"rank", Console, full, ("takes", "a"), 1.5]:
            self.refuses(empty, value)
            self.refuses(full, value)
        self.assertEqual(full.run("show"), ROOMS[8:])

    def test_long_values(self):
        self.all_refuse(["rank " * 700, "takes " + "a" * 3900 + "A", "from " + "(" * 3900, "from " + "a*" * 1900 + " ",
                         "machine " + ";" * 3900, "machine machine 1;ends 0 0" + ";move 0 a 0" * 300, "apart " + "(a " * 1300])

    def test_changed(self):
        rng = random.Random(511)
        right = ["rank", "show", "takes -", "takes ab", "takes aabb", "flat 0", "flat 1", "flat 10", "flat 99", ROOMS]
        right += [f"{name} {text}" for name in ("from", "apart") for text in sample_texts()]
        right += [told(machine) for machine in sample_machines() if machine.size < 5]
        console, kept = Console(), None
        many = {}
        for _ in range(6000):
            command = rng.choice(right)
            for _ in range(rng.choice([0, 1, 1, 1, 2])):
                command = text_otherwise(rng, command)
            if rng.random() < 0.01:
                console, kept = Console(), None
            expected = answer_told(kept, command)[0]
            many[expected] = many.get(expected, 0) + 1
            kept = self.check(console, kept, command)
        for expected in (InvalidCommand, NoMachine, "ok", "no", "yes", "=", "-"):
            self.assertGreater(many[expected], 5, expected)

    def test_words_exchanged(self):
        rng = random.Random(512)
        pieces = ["machine", "from", "rank", "takes", "show", "flat", "apart", "-", "=", "a", "ab", "0", "7", "99", "100",
                  "(a b)", "(a | b)*", "a+", "1", ROOMS[8:], "machine 1;ends 0 0", "(a", "|", "b)", ";", ""]
        console, kept = Console(), None
        held = 0
        for _ in range(4000):
            command = " ".join(rng.choice(pieces) for _ in range(rng.randint(1, 3)))
            held += isinstance(answer_told(kept, command)[0], str)
            kept = self.check(console, kept, command)
        self.assertGreater(held, 80)


class LimitsTest(ConsoleTest):

    def test_rank_and_flat_at_the_limit(self):
        machine = Machine(8, 0, 0, tuple(sorted(
            {(s, "a", (s + 1) % 8) for s in range(8)} | {((s + 1) % 8, "b", s) for s in range(8)}
            | {(s, "c", (s + 3) % 8) for s in range(8)})))
        console = started(told(machine))
        self.assertEqual(console.run("rank"), str(rank(machine)))
        self.assertEqual(console.run(f"flat {rank(machine) - 1}"), "no")
        self.assertEqual(console.run(f"flat {rank(machine)}"), "yes")


if __name__ == "__main__":
    unittest.main()
