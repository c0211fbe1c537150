"""Which letters of an expression can be read behind which others."""

from loopsdeep.expression_trees import letters_of, nodes_of


class Follows:
    """How words go through the positions of an expression.

    A joint is a pair of tuples of positions: behind each one of the first, each one of the second can be read.
    Joints take the place of all pairs of positions, of which there can be far more.
    """

    def __init__(self, expression):
        span, joints = span_and_joints(expression)
        self.letters = letters_of(expression)
        self.is_empty_read, self.firsts, lasts = span
        self.lasts = {position: True for position in lasts}
        self.joints = joints
        self.joints_behind = joints_of_positions(len(self.letters), joints)

    def is_end(self, lot):
        """Whether a lot is ending."""
        if lot == (-1,):
            return self.is_empty_read
        return any([position in self.lasts for position in lot])

    def lot_by(self, lot, letter):
        """The lot behind a lot by a letter."""
        return tuple([position for position in self.next_positions(lot) if self.letters[position] == letter])

    def next_positions(self, lot):
        """The positions that can be read directly behind a lot, ascending."""
        if lot == (-1,):
            return self.firsts
        numbers = sorted(set([number for position in lot for number in self.joints_behind[position]]))
        return sorted(set([position for number in numbers for position in self.joints[number][1]]))


def joints_of_positions(size, joints):
    """For each position, the numbers of the joints in whose first tuple it is."""
    numbers = [[] for _ in range(size)]
    for number, joint in enumerate(joints):
        for position in joint[0]:
            numbers[position].append(number)
    return numbers


def span_and_joints(expression):
    """The span of an expression and its joints.

    A span tells whether the empty word is one, at which positions words begin and at which they end.
    """
    spans = []
    joints = []
    size = 0
    for node in nodes_of(expression):
        if node.kind == "letter":
            spans.append((False, (size,), (size,)))
            size += 1
        else:
            inner = []
            for _ in node.parts:
                inner.append(spans.pop())
            inner = inner[::-1]
            joints.extend(joints_within(node.kind, inner))
            spans.append(span_around(node.kind, inner))
    return spans[0], joints


def span_around(kind, inner):
    """The span of an expression of a kind whose parts have some spans."""
    if kind == "one":
        return True, (), ()
    if kind == "row":
        return spans_in_row(inner)[-1]
    is_empty_read = any([span[0] for span in inner]) or kind in ("loop", "maybe")
    firsts = tuple([position for span in inner for position in span[1]])
    lasts = tuple([position for span in inner for position in span[2]])
    return is_empty_read, firsts, lasts


def joints_within(kind, inner):
    """The joints between the parts of an expression of a kind, which have some spans."""
    if kind == "row":
        behind = spans_in_row(inner)
        return [(behind[place][2], inner[place + 1][1]) for place in range(len(inner) - 1)]
    if kind in ("loop", "some"):
        return [(inner[0][2], inner[0][1])]
    return []


def spans_in_row(inner):
    """The spans of a row's first part, first two parts and so on up to all, the parts having some spans."""
    spans = [inner[0]]
    for part in inner[1:]:
        before = spans[-1]
        firsts = before[1] + part[1] if before[0] else before[1]
        lasts = before[2] + part[2] if part[0] else part[2]
        spans.append((before[0] and part[0], firsts, lasts))
    return spans
