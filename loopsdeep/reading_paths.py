"""From a word to the positions at which its letters are read, and from these to a reading."""


def path_along(follows, word):
    """A list of the positions at which the letters of a word can be read, one behind the other, or None."""
    lots = [(-1,)]
    for sign in word:
        lots.append(follows.lot_by(lots[-1], sign))
    if not follows.is_end(lots[-1]):
        return None
    path = []
    for lot in reversed(lots[1:]):
        if path:
            fitting = [position for position in lot if follows.is_behind(position, path[-1])]
        else:
            fitting = [position for position in lot if position in follows.lasts]
        path.append(fitting[0])
    return path[::-1]


def reading_along(follows, path):
    """The reading of a word whose letters are read at the positions of a path."""
    met = []
    waiting = [(len(follows.tree.nodes) - 1, path)]
    while waiting:
        number, steps = waiting.pop()
        inner = parts_along(follows, number, steps)
        met.append((number, inner))
        waiting.extend(inner)
    built = []
    for number, inner in reversed(met):
        readings = tuple(built[len(built) - len(inner):])
        del built[len(built) - len(inner):]
        built.append(reading_of(follows.tree, number, inner, readings))
    return built[0]


def reading_of(tree, number, inner, readings):
    """The reading by a node: inner has the parts that are read, with their steps, and readings how."""
    node = tree.nodes[number]
    if node.kind == "letter":
        return node.parts[0]
    if node.kind == "choice":
        return tree.inner[number].index(inner[0][0]), readings[0]
    return readings


def parts_along(follows, number, steps):
    """The numbers of the parts of a node that are read along some steps, positions of its own, each with its steps."""
    tree = follows.tree
    kind = tree.nodes[number].kind
    parts = tree.inner[number]
    if kind == "row":
        return [(part, [step for step in steps if tree.is_within(step, part)]) for part in parts]
    if kind == "choice":
        return [(chosen_part(follows, parts, steps), steps)]
    if kind in ("loop", "some"):
        rounds = rounds_along(follows, number, steps)
        if kind == "some" and not rounds:
            rounds = [[]]
        return [(parts[0], steps_of_round) for steps_of_round in rounds]
    if kind == "maybe" and steps:
        return [(parts[0], steps)]
    return []


def chosen_part(follows, parts, steps):
    """The number of the first part that is read along some steps, perhaps none."""
    if steps:
        return [part for part in parts if follows.tree.is_within(steps[0], part)][0]
    return [part for part in parts if follows.spans[part][0]][0]


def rounds_along(follows, number, steps):
    """The steps of each round of a loop.

    A round ends wherever it can and another one can begin: what is between then is read within the part.
    """
    joint = follows.round_joints[number]
    rounds = []
    for step in steps:
        if not rounds or follows.is_joined(joint, rounds[-1][-1], step):
            rounds.append([step])
        else:
            rounds[-1].append(step)
    return rounds
