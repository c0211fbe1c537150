"""Expressions of letters, rows, choices and loops."""

from loopsdeep.errors import BadExpression
from loopsdeep.expression_texts import pieces_of, steps_of
from loopsdeep.expression_trees import nodes_of
from loopsdeep.follows import Follows
from loopsdeep.machines import is_word
from loopsdeep.values import is_letter

KINDS = ("one", "letter", "row", "choice", "loop", "some", "maybe")


class Expression:
    """A kind and parts; its words, depth and size follow from them."""

    def __init__(self, kind, parts=()):
        check_expression(kind, parts)
        self.kind = kind
        self.parts = parts
        if kind == "letter":
            self.depth = 0
            self.size = 1
            self.letters = parts[0]
        else:
            rounds = 1 if kind in ("loop", "some") else 0
            self.depth = max([part.depth for part in parts], default=0) + rounds
            self.size = sum([part.size for part in parts])
            self.letters = "".join(sorted(set("".join([part.letters for part in parts]))))

    def __eq__(self, other):
        return isinstance(other, Expression) and str(self) == str(other)

    def __str__(self):
        return "".join(pieces_of(self))

    @classmethod
    def read(cls, text):
        """The expression with a text; raises BadText for any value that is none."""
        built = []
        for kind, told in steps_of(text):
            if kind == "letter":
                built.append(cls(kind, (told,)))
            else:
                parts = tuple(built[len(built) - told:])
                del built[len(built) - told:]
                built.append(cls(kind, parts))
        return built[0]

    def __contains__(self, word):
        return is_word(word) and Follows(self).reads(word)

    def __add__(self, other):
        if not isinstance(other, Expression):
            return NotImplemented
        return Expression("row", (self, other))

    def __or__(self, other):
        if not isinstance(other, Expression):
            return NotImplemented
        return Expression("choice", (self, other))

    def loop(self):
        """Any number of rounds of this expression."""
        return Expression("loop", (self,))

    def some(self):
        """One round of this expression or more."""
        return Expression("some", (self,))

    def maybe(self):
        """This expression or the empty word."""
        return Expression("maybe", (self,))

    def backward(self):
        """This expression with the parts of each row in reverse order, at all depths."""
        built = []
        for node in nodes_of(self):
            if node.kind == "letter":
                built.append(node)
            else:
                first = len(built) - len(node.parts)
                parts = built[first:]
                del built[first:]
                if node.kind == "row":
                    parts = parts[::-1]
                built.append(Expression(node.kind, tuple(parts)))
        return built[0]


def check_expression(kind, parts):
    """Raises BadExpression with the first part of an expression that is not as it has to be."""
    if kind not in KINDS:
        raise BadExpression("kind")
    if not isinstance(parts, tuple) or not is_number_of_parts(kind, len(parts)):
        raise BadExpression("parts")
    for part in parts:
        if kind == "letter" and not is_letter(part):
            raise BadExpression(part)
        if kind != "letter" and not isinstance(part, Expression):
            raise BadExpression(part)


def is_number_of_parts(kind, many):
    """Whether expressions of a kind can have so many parts."""
    if kind == "one":
        return many == 0
    if kind in ("row", "choice"):
        return many >= 2
    return many == 1


def one():
    """The expression whose only word is the empty word."""
    return Expression("one")


def letter(sign):
    """The expression whose only word is a letter."""
    return Expression("letter", (sign,))


def joined(*expressions):
    """The row of some expressions, or the only one."""
    if len(expressions) == 1:
        return expressions[0]
    return Expression("row", expressions)


def chosen(*expressions):
    """The choice of some expressions, or the only one."""
    if len(expressions) == 1:
        return expressions[0]
    return Expression("choice", expressions)
