"""Texts of expressions."""

from loopsdeep.errors import BadText
from loopsdeep.values import is_letter

MARKS = {"loop": "*", "some": "+", "maybe": "?"}
MARKED = {"*": "loop", "+": "some", "?": "maybe"}
BEHIND_BLANK = {"": "fork", "row": "part", "choice": "bar"}


def pieces_of(expression):
    """The strings that make the text of an expression, in order."""
    pieces = []
    waiting = [expression]
    while waiting:
        item = waiting.pop()
        if isinstance(item, str):
            pieces.append(item)
        else:
            waiting.extend(pieces_around(item)[::-1])
    return pieces


def pieces_around(expression):
    """The parts of an expression and the strings of its text around them, in order."""
    if expression.kind == "one":
        return ["1"]
    if expression.kind == "letter":
        return [expression.parts[0]]
    if expression.kind in MARKS:
        return [expression.parts[0], MARKS[expression.kind]]
    joint = " " if expression.kind == "row" else " | "
    pieces = ["("]
    for place, part in enumerate(expression.parts):
        if place > 0:
            pieces.append(joint)
        pieces.append(part)
    pieces.append(")")
    return pieces


def steps_of(text):
    """The steps that build the expression with a text, which may be any value; raises BadText if it is none.

    A step is a kind with the letter or, for the other kinds, with the number of expressions that it takes:
    those that the latest steps have built and no step between has taken.
    """
    if not isinstance(text, str):
        raise BadText(-1)
    reader = Reader()
    for place, sign in enumerate(text):
        if not reader.take(sign):
            raise BadText(place)
    if not reader.is_whole():
        raise BadText(len(text))
    return reader.steps


class Reader:
    """Takes the signs of a text one by one as long as some text goes on so.

    awaited tells what comes next: "part", the begin of an expression; "end", what can stand behind one; "fork",
    what can stand behind the first blank in brackets; "bar", a bar; "gap", the blank behind a bar.
    """

    def __init__(self):
        self.steps = []
        self.awaited = "part"
        # For each open bracket: its kind, "" as long as that is undecided, and the number of its parts.
        self._kinds = []
        self._counts = []

    def is_whole(self):
        """Whether the signs so far are a text."""
        return self.awaited == "end" and self._kinds == []

    def take(self, sign):
        """Takes a sign and returns True, or returns False if no text goes on with it."""
        if self.awaited == "end":
            return self._go_on(sign)
        if self.awaited == "gap":
            self.awaited = "part"
            return sign == " "
        if self.awaited == "bar" or (self.awaited == "fork" and sign == "|"):
            self._kinds[-1] = "choice"
            self.awaited = "gap"
            return sign == "|"
        if self.awaited == "fork":
            self._kinds[-1] = "row"
        return self._begin(sign)

    def _begin(self, sign):
        if sign == "(":
            self._kinds.append("")
            self._counts.append(0)
            self.awaited = "part"
            return True
        if sign == "1":
            self._build("one", 0)
            return True
        if is_letter(sign):
            self._build("letter", sign)
            return True
        return False

    def _build(self, kind, told):
        self.steps.append((kind, told))
        self.awaited = "end"
        if self._counts:
            self._counts[-1] += 1

    def _go_on(self, sign):
        if sign in MARKED:
            self.steps.append((MARKED[sign], 1))
            return True
        if self._kinds == []:
            return False
        kind = self._kinds[-1]
        if sign == " ":
            self.awaited = BEHIND_BLANK[kind]
            return True
        if sign == ")" and kind != "":
            self._kinds.pop()
            self._build(kind, self._counts.pop())
            return True
        return False
