"""The parts of expressions at all depths, met without recursion: expressions that are read may nest deeply."""


def parts_of(expression):
    """The parts of an expression that are expressions."""
    if expression.kind == "letter":
        return ()
    return expression.parts


def nodes_of(expression):
    """An expression and its parts at all depths, in the order of the text, each one behind its own parts."""
    found = []
    waiting = [expression]
    while waiting:
        node = waiting.pop()
        found.append(node)
        waiting.extend(parts_of(node))
    return found[::-1]


def letters_of(expression):
    """The string of the letters of an expression, each occurrence, in the order of the text."""
    return "".join([node.parts[0] for node in nodes_of(expression) if node.kind == "letter"])
