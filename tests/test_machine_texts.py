"""Texts of machines: point 5, and Machine.read of the interface."""

import random
import re
import unittest

from loopsdeep.errors import BadMachine, BadText
from loopsdeep.machines import Machine
from loopsdeep.makers import corridor, ring
from tests.samples import odd_values, random_machines, sample_machines

NUMBER = "(0|[1-9][0-9]{0,2})"


def told(text):
    """("text", place) if a value is no text of a machine, otherwise the size, ends and moves that it tells."""
    if not isinstance(text, str):
        return "text", -1
    lines = text.split("\n")
    found = re.fullmatch("machine " + NUMBER, lines[0])
    if not found or found[1] == "0":
        return "text", 0
    size = int(found[1])
    if len(lines) < 2:
        return "text", 1
    found = re.fullmatch(f"ends {NUMBER} {NUMBER}", lines[1])
    if not found or int(found[1]) >= size or int(found[2]) >= size:
        return "text", 1
    ends = (int(found[1]), int(found[2]))
    moves = []
    for place in range(2, len(lines)):
        found = re.fullmatch(f"move {NUMBER} ([a-z]) {NUMBER}", lines[place])
        move = found and (int(found[1]), found[2], int(found[3]))
        if not move or move[0] >= size or move[2] >= size or (moves and not moves[-1] < move):
            return "text", place
        moves.append(move)
    return size, *ends, tuple(moves)


def changed(rng, text):
    """A text with a sign or a line left out, given twice, exchanged or put in."""
    if rng.random() < 0.4:
        lines = text.split("\n")
        at, other = rng.randrange(len(lines)), rng.randrange(len(lines))
        how = rng.randrange(4)
        if how == 0:
            del lines[at]
        elif how == 1:
            lines.insert(other, lines[at])
        elif how == 2:
            lines[at], lines[other] = lines[other], lines[at]
        else:
            lines[at] = rng.choice(["", "machine 2", "ends 0 1", "move 0 a 1", "move 1 b 0", " "])
        return "\n".join(lines)
    at = rng.randrange(len(text) + 1)
    sign = rng.choice("00012399 abzA-+\n")
    return rng.choice([text[:at] + text[at + 1:], text[:at] + sign + text[at:], text[:at] + sign + text[at + 1:]])


class TextTest(unittest.TestCase):

    def refuses(self, place, text):
        with self.assertRaises(BadText) as context:
            Machine.read(text)
        self.assertEqual((type(context.exception.place), context.exception.place), (int, place))

    def test_line_by_line(self):
        machine = Machine(3, 2, 1, ((0, "c", 0), (0, "x", 1), (2, "x", 0)))
        self.assertEqual(str(machine), "machine 3\nends 2 1\nmove 0 c 0\nmove 0 x 1\nmove 2 x 0")
        self.assertEqual(str(Machine(1, 0, 0, ())), "machine 1\nends 0 0")
        lines = str(ring(120)).split("\n")
        self.assertEqual(lines[0], "machine 120")
        self.assertEqual(lines[101:103], ["move 99 a 100", "move 100 a 101"])
        self.assertEqual(lines[-1], "move 119 a 0")

    def test_read_again(self):
        for machine in sample_machines() + random_machines(1, 50) + [ring(999), corridor(400), ring(1000 - 1)]:
            again = Machine.read(str(machine))
            self.assertEqual(again, machine)
            self.assertEqual(str(again), str(machine))
            self.assertEqual(Machine.read(text=str(machine)), machine)

    def test_texts_are_equal_exactly_if_the_machines_are(self):
        machines = sample_machines() + random_machines(2, 30, most=2, letters="a")
        for one in machines:
            for other in machines:
                self.assertEqual(str(one) == str(other), one == other)

    def test_no_string(self):
        for value in odd_values():
            if not isinstance(value, str):
                self.refuses(-1, value)

    def test_first_line(self):
        for line in ("", "machine", "machine ", "machine 0", "machine 00", "machine 01", "machine -1", "machine +1",
                     "machine 1000", "machine 0001", "machine 1 ", " machine 1", "machine  1", "Machine 1", "machine 1.",
                     "machine one", "machine 1 1", "MACHINE 1", "machine\t1", "ends 0 0", "machine " + "9" * 5000,
                     "machine \u0661", "machine \u00b2", "machine 1\r"):
            self.refuses(0, line)
            self.refuses(0, line + "\nends 0 0")

    def test_missing_line(self):
        self.refuses(1, "machine 1")
        self.refuses(1, "machine 999")

    def test_second_line(self):
        for line in ("", "ends", "ends 0", "ends 0 0 0", "ends 0 2", "ends 2 0", "ends 00 0", "ends 0 01", "ends -1 0",
                     "Ends 0 0", "ends  0 0", "ends 0 0 ", " ends 0 0", "move 0 a 1", "machine 2", "ends 0,0",
                     "ends 0 " + "1" * 5000, "ends 0\t0"):
            self.refuses(1, "machine 2\n" + line)
            self.refuses(1, "machine 2\n" + line + "\nmove 0 a 1")

    def test_line_of_a_move(self):
        head = "machine 2\nends 0 1\n"
        for line in ("", "move", "move 0 a", "move 0 a 1 1", "move 0 a 2", "move 2 a 0", "move 0 A 1", "move 0 ab 1",
                     "move 0  1", "move  0 a 1", "move 0 a 1 ", " move 0 a 1", "Move 0 a 1", "move 00 a 1",
                     "move 0 a 01", "move 0 1 1", "move a 0 1", "move 0 a -1", "ends 0 1", "machine 2", "move 0 { 1"):
            self.refuses(2, head + line)
            self.refuses(2, head + line + "\nmove 0 a 1")
            self.refuses(3, head + "move 0 a 1\n" + line)

    def test_moves_that_do_not_ascend(self):
        self.refuses(3, "machine 2\nends 0 1\nmove 0 a 1\nmove 0 a 1")
        self.refuses(3, "machine 2\nends 0 1\nmove 0 b 1\nmove 0 a 1")
        self.refuses(4, "machine 2\nends 0 1\nmove 0 a 1\nmove 1 a 1\nmove 1 a 0\nmove x")
        # Ten is more than nine, though not as a text.
        self.assertEqual(len(Machine.read(str(ring(11)))), 11)

    def test_line_feed_at_the_end(self):
        self.refuses(2, "machine 1\nends 0 0\n")
        self.refuses(1, "machine 1\n")
        self.refuses(0, "\nmachine 1\nends 0 0")
        self.refuses(0, "\n")

    def test_right_form_but_no_machine(self):
        for text, part in (
                ("machine 2\nends 0 1", 0), ("machine 2\nends 0 0\nmove 0 a 0", 1),
                ("machine 2\nends 0 1\nmove 0 a 0\nmove 0 a 1", (0, "a", 1)),
                ("machine 2\nends 0 1\nmove 0 a 1\nmove 1 a 1", (1, "a", 1))):
            with self.assertRaises(BadMachine) as context:
                Machine.read(text)
            self.assertEqual(context.exception.part, part)

    def test_texts_with_changes(self):
        rng = random.Random(6)
        machines = sample_machines()[4:] + random_machines(7, 40) + [ring(11), ring(101)]
        for _ in range(6000):
            text = str(rng.choice(machines))
            for _ in range(rng.choice([1, 1, 2, 3])):
                text = changed(rng, text)
            self.check(text)
        for value in odd_values():
            self.check(value)

    def check(self, text):
        expected = told(text)
        if expected[0] == "text":
            self.refuses(expected[1], text)
            return
        try:
            machine = Machine(*expected)
        except BadMachine as error:
            with self.assertRaises(BadMachine) as context:
                Machine.read(text)
            self.assertEqual(context.exception.part, error.part)
            return
        self.assertEqual(Machine.read(text), machine)
        self.assertEqual(str(machine), text)


if __name__ == "__main__":
    unittest.main()
