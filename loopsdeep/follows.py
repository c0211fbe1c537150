"""Which letters of an expression can be read behind which others."""

from loopsdeep.expression_trees import Tree


class Follows:
    """How words go through the positions of an expression.

    A span of a part tells whether the empty word is one of its words, at which positions they begin and at which they
    end. A joint is a pair of tuples of positions: behind each one of the first, each one of the second can be read.
    Joints take the place of all pairs of positions, of which there can be far more.
    """

    def __init__(self, expression):
        self.tree = Tree(expression)
        self.letters = "".join([node.parts[0] for node in self.tree.nodes if node.kind == "letter"])
        self.spans = spans_of(self.tree)
        self.is_empty_read, self.firsts, lasts = self.spans[-1]
        self.lasts = {position: True for position in lasts}
        self.joints, self.round_joints = joints_of(self.tree, self.spans)
        # For each position, the numbers of the joints in whose first, or in whose second, tuple it is.
        self.joints_behind = numbers_at(len(self.letters), [joint[0] for joint in self.joints])
        self.joints_before = numbers_at(len(self.letters), [joint[1] for joint in self.joints])

    def is_end(self, lot):
        """Whether a lot is ending."""
        if lot == (-1,):
            return self.is_empty_read
        return any([position in self.lasts for position in lot])

    def reads(self, word):
        """Whether a word is one of the expression."""
        # Long words meet few lots again and again.
        known = {}
        lot = (-1,)
        for letter in word:
            if lot not in known:
                known[lot] = self.lots_behind(lot)
            lot = known[lot].get(letter, ())
        return self.is_end(lot)

    def lot_by(self, lot, letter):
        """The lot behind a lot by a letter."""
        return tuple([position for position in self.next_positions(lot) if self.letters[position] == letter])

    def lots_behind(self, lot):
        """A dict of the lots behind a lot by each letter, those that are empty left out."""
        found = {}
        for position in self.next_positions(lot):
            found.setdefault(self.letters[position], []).append(position)
        return {letter: tuple(positions) for letter, positions in found.items()}

    def next_positions(self, lot):
        """The positions that can be read directly behind a lot, ascending."""
        if lot == (-1,):
            return self.firsts
        numbers = sorted(set([number for position in lot for number in self.joints_behind[position]]))
        return sorted(set([position for number in numbers for position in self.joints[number][1]]))

    def is_joined(self, number, position, after):
        """Whether a joint lets a position be read directly behind another one."""
        return number in self.joints_before[after] and number in self.joints_behind[position]

    def is_behind(self, position, after):
        """Whether a position can be read directly behind another one."""
        return any([number in self.joints_behind[position] for number in self.joints_before[after]])


def spans_of(tree):
    """The spans of the nodes of a tree."""
    spans = []
    for number, node in enumerate(tree.nodes):
        if node.kind == "letter":
            start = tree.starts[number]
            spans.append((False, (start,), (start,)))
        else:
            spans.append(span_around(node.kind, [spans[part] for part in tree.inner[number]]))
    return spans


def span_around(kind, inner):
    """The span of an expression of a kind whose parts have some spans."""
    if kind == "one":
        return True, (), ()
    if kind == "row":
        return spans_in_row(inner)[-1]
    is_empty_read = any([span[0] for span in inner]) or kind in ("loop", "maybe")
    firsts = tuple([position for span in inner for position in span[1]])
    lasts = tuple([position for span in inner for position in span[2]])
    return is_empty_read, firsts, lasts


def spans_in_row(inner):
    """The spans of a row's first part, first two parts and so on up to all, the parts having some spans."""
    spans = [inner[0]]
    for part in inner[1:]:
        before = spans[-1]
        firsts = before[1] + part[1] if before[0] else before[1]
        lasts = before[2] + part[2] if part[0] else part[2]
        spans.append((before[0] and part[0], firsts, lasts))
    return spans


def joints_of(tree, spans):
    """The joints of an expression, and a dict of the joint between two rounds for the numbers of its loops."""
    joints = []
    round_joints = {}
    for number, node in enumerate(tree.nodes):
        inner = [spans[part] for part in tree.inner[number]]
        if node.kind == "row":
            behind = spans_in_row(inner)
            joints.extend([(behind[place][2], inner[place + 1][1]) for place in range(len(inner) - 1)])
        elif node.kind in ("loop", "some"):
            round_joints[number] = len(joints)
            joints.append((inner[0][2], inner[0][1]))
    return joints, round_joints


def numbers_at(size, groups):
    """For each position, the numbers of the groups of positions in which it is."""
    numbers = [[] for _ in range(size)]
    for number, group in enumerate(groups):
        for position in group:
            numbers[position].append(number)
    return numbers
