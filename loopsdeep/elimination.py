"""From a machine to an expression: its states are taken out one after the other."""

from loopsdeep.expressions import chosen, joined, letter, one


def expression_by(machine, given):
    """An expression with the words of a machine whose states are taken out in the order of given levels.

    labels has for pairs of states an expression of the ways from one to the other through states that are taken out.
    """
    begin = machine.size
    end = machine.size + 1
    labels = move_labels(machine)
    labels[(begin, machine.first)] = one()
    labels[(machine.last, end)] = one()
    for _, state in sorted([(level, state) for state, level in enumerate(given)]):
        labels = labels_without(labels, state)
    return labels[(begin, end)]


def move_labels(machine):
    """For each pair of states with moves from one to the other, the choice of their letters."""
    signs = {}
    for source, sign, target in machine.moves:
        signs.setdefault((source, target), []).append(letter(sign))
    return {pair: choice_of(found) for pair, found in signs.items()}


def labels_without(labels, state):
    """The labels when one more state is taken out."""
    rounds = [label.loop() for pair, label in labels.items() if pair == (state, state)]
    heads = [(pair[0], label) for pair, label in labels.items() if pair[1] == state and pair[0] != state]
    tails = [(pair[1], label) for pair, label in labels.items() if pair[0] == state and pair[1] != state]
    ways = {pair: [label] for pair, label in labels.items() if state not in pair}
    for source, head in heads:
        for target, tail in tails:
            ways.setdefault((source, target), []).append(row_of([head, *rounds, tail]))
    return {pair: choice_of(found) for pair, found in ways.items()}


def row_of(expressions):
    """The row of some expressions without brackets within it, those of the kind one being left out."""
    parts = []
    for expression in expressions:
        if expression.kind == "row":
            parts.extend(expression.parts)
        elif expression.kind != "one":
            parts.append(expression)
    if not parts:
        return one()
    return joined(*parts)


def choice_of(expressions):
    """The choice of some expressions without brackets within it."""
    parts = []
    for expression in expressions:
        if expression.kind == "choice":
            parts.extend(expression.parts)
        else:
            parts.append(expression)
    return chosen(*parts)
