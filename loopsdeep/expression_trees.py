"""The parts of expressions at all depths, met without recursion: expressions that are read may nest deeply."""


class Tree:
    """An expression and its parts at all depths, numbered in the order of nodes_of: the whole one comes last.

    inner has the numbers of the parts of each node, starts the position at which its letters begin.
    """

    def __init__(self, expression):
        inner = []
        starts = []
        waiting = []
        size = 0
        self.nodes = nodes_of(expression)
        for number, node in enumerate(self.nodes):
            parts = []
            for _ in parts_of(node):
                parts.append(waiting.pop())
            # What was put down last was taken up first.
            parts = parts[::-1]
            waiting.append(number)
            inner.append(parts)
            starts.append(starts[parts[0]] if parts else size)
            if node.kind == "letter":
                size += 1
        self.inner = inner
        self.starts = starts

    def is_within(self, position, number):
        """Whether a position is one of a node."""
        start = self.starts[number]
        return start <= position < start + self.nodes[number].size


def parts_of(expression):
    """The parts of an expression that are expressions."""
    if expression.kind == "letter":
        return ()
    return expression.parts


def nodes_of(expression):
    """An expression and its parts at all depths, in the order of the text, each one behind its own parts."""
    found = []
    waiting = [expression]
    while waiting:
        node = waiting.pop()
        found.append(node)
        waiting.extend(parts_of(node))
    return found[::-1]


def letters_of(expression):
    """The string of the letters of an expression, each occurrence, in the order of the text."""
    return "".join([node.parts[0] for node in nodes_of(expression) if node.kind == "letter"])
