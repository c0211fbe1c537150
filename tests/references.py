"""What the document says of words, knots, ranks, levels, nests, readings, tables and papers, written down anew.

Nothing here is quick; each function follows its point as closely as it can and takes any value where the point does.
"""

import functools
import itertools
import re

from loopsdeep.errors import BadMachine, BadText, InvalidCommand, NoMachine
from loopsdeep.expressions import Expression
from loopsdeep.judging import parting_word
from loopsdeep.machines import Machine
from loopsdeep.positions import is_ending, lot_behind
from tests.samples import LETTERS, all_words, closure, end_of, letters_in, words_within


def is_whole(thing):
    return type(thing) is int


def ascends(items):
    return all(one < other for one, other in zip(items, items[1:]))


# Point 6

def edges_of(expression, begin, end, numbers):
    """The edges of a graph whose paths from begin to end spell the words; some edges have no letter."""
    kind, parts = expression.kind, expression.parts
    if kind in ("one", "letter"):
        return [(begin, parts[0] if parts else "", end)]
    edges = []
    if kind == "row":
        for part in parts[:-1]:
            after = next(numbers)
            edges += edges_of(part, begin, after, numbers)
            begin = after
        return edges + edges_of(parts[-1], begin, end, numbers)
    for part in parts:
        first, last = next(numbers), next(numbers)
        edges += [(begin, "", first), (last, "", end), *edges_of(part, first, last, numbers)]
        edges += [(last, "", first)] if kind in ("loop", "some") else []
        edges += [(begin, "", end)] if kind in ("loop", "maybe") else []
    return edges


def is_word_of(expression, word):
    """Whether a path of the graph of an expression spells a word."""
    ahead = {}
    for source, sign, target in edges_of(expression, 0, 1, itertools.count(2)):
        ahead.setdefault((source, sign), []).append(target)
    states = all_ahead({0}, ahead)
    for sign in word:
        states = all_ahead({target for state in states for target in ahead.get((state, sign), [])}, ahead)
    return 1 in states


def all_ahead(states, ahead):
    found, waiting = set(states), list(states)
    while waiting:
        fresh = set(ahead.get((waiting.pop(), ""), [])) - found
        found |= fresh
        waiting += fresh
    return found


# Points 3 and 11

def least_states(expression):
    """The least deterministic machine of an expression: its first state, its last states, and its moves.

    Its states are numbered as they are met from the first one, by ascending letters; each lies on a path to a last one.
    """
    ahead = {}
    for source, sign, target in edges_of(expression, 0, 1, itertools.count(2)):
        ahead.setdefault((source, sign), []).append(target)
    start = frozenset(all_ahead({0}, ahead))
    sets, moves = [start], {}
    for states in sets:
        for letter in sorted(set(letters_in(str(expression)))):
            targets = frozenset(all_ahead({t for s in states for t in ahead.get((s, letter), [])}, ahead))
            if targets:
                moves[states, letter] = targets
                if targets not in sets:
                    sets.append(targets)
    kinds = {states: 1 in states for states in sets}
    while True:
        told = {states: (kinds[states], tuple((letter, kinds[target]) for (source, letter), target in sorted(
            moves.items(), key=lambda move: move[0][1]) if source == states)) for states in sets}
        names = {name: number for number, name in enumerate(dict.fromkeys(told[states] for states in sets))}
        if len(names) == len(set(kinds.values())):
            break
        kinds = {states: names[told[states]] for states in sets}
    lasts = {kinds[states] for states in sets if 1 in states}
    steps = {(kinds[source], letter): kinds[target] for (source, letter), target in moves.items()}
    return numbered_states(kinds[start], lasts, steps)


def numbered_states(first, lasts, steps):
    order = [first]
    for state in order:
        for source, letter in sorted(steps, key=lambda step: step[1]):
            if source == state and steps[source, letter] not in order:
                order.append(steps[source, letter])
    moves = sorted((order.index(source), letter, order.index(target)) for (source, letter), target in steps.items())
    return 0, sorted(order.index(state) for state in lasts), moves


def machine_told(expression):
    """The machine with the words of an expression, numbered, or None if there is none."""
    first, lasts, moves = least_states(expression)
    entering = [(letter, target) for _, letter, target in moves]
    if len(lasts) > 1 or len(entering) > len(set(entering)):
        return None
    return Machine(1 + max([first, *lasts, *(target for _, _, target in moves)]), first, lasts[0], tuple(moves))


def is_witness(expression, thing):
    if type(thing) is not tuple or len(thing) != 4:
        return False
    if not all(type(word) is str and set(word) <= set(LETTERS) for word in thing):
        return False
    u, v, x, y = thing
    return [is_word_of(expression, word) for word in (u + x, u + y, v + x, v + y)] == [True, True, True, False]


# Point 9

def steps_within(moves, states):
    return frozenset((s, t) for s, _, t in moves if s in states and t in states)


@functools.lru_cache(maxsize=None)
def knots_of_steps(states, steps):
    ahead = {s: set().union(*[closure(t, steps) for u, t in steps if u == s]) for s in states}
    return {frozenset(t for t in ahead[s] if s in ahead[t]) for s in states if s in ahead[s]}


def knots_told(machine, states):
    found = knots_of_steps(frozenset(states), steps_within(machine.moves, states))
    return tuple(sorted(tuple(sorted(knot)) for knot in found))


@functools.lru_cache(maxsize=None)
def rank_of_steps(states, steps):
    knots = knots_of_steps(states, frozenset((s, t) for s, t in steps if s in states and t in states))
    if not knots:
        return 0
    if len(knots) > 1:
        return max(rank_of_steps(knot, steps) for knot in knots)
    knot = list(knots)[0]
    return 1 + min(rank_of_steps(knot - {state}, steps) for state in knot)


def rank_told(machine, moves=None):
    """The rank of all states, of some of the moves alone if these are told."""
    moves = machine.moves if moves is None else moves
    return rank_of_steps(frozenset(range(machine.size)), frozenset((s, t) for s, _, t in moves))


def are_levels(machine, thing):
    if type(thing) is not tuple or len(thing) != machine.size:
        return False
    if not all(is_whole(level) and level >= 0 for level in thing):
        return False
    for level in thing:
        states = tuple(state for state in range(machine.size) if thing[state] <= level)
        for knot in knots_told(machine, states):
            many = sum(thing[state] == level for state in knot)
            if many > (0 if level == 0 else 1):
                return False
    return True


def is_nest(machine, thing):
    if type(thing) is not tuple:
        return False
    for pair in thing:
        if type(pair) is not tuple or len(pair) != 2 or not is_whole(pair[0]) or pair[0] < 1:
            return False
        if type(pair[1]) is not tuple or pair[1] == () or not all(is_whole(state) for state in pair[1]):
            return False
        if not all(0 <= state < machine.size for state in pair[1]) or not ascends(pair[1]):
            return False
    if not ascends(thing):
        return False
    for number, states in thing:
        if knots_told(machine, states) != (states,):
            return False
        for state in states if number > 1 else ():
            rest = set(states) - {state}
            if not any(n == number - 1 and set(inner) <= rest for n, inner in thing):
                return False
    return True


def height_of(nest):
    return max([number for number, _ in nest], default=0)


# Point 12

def word_read(expression, thing):
    """The word that any value reads by an expression, or None if the value is no reading."""
    kind, parts = expression.kind, expression.parts
    if kind == "letter":
        return thing if type(thing) is str and thing == parts[0] else None
    if type(thing) is not tuple:
        return None
    if kind == "choice":
        if len(thing) != 2 or not is_whole(thing[0]) or thing[0] not in range(len(parts)):
            return None
        return word_read(parts[thing[0]], thing[1])
    if kind in ("one", "row"):
        pairs = list(zip(parts, thing)) if len(parts) == len(thing) else None
    else:
        least, most = {"loop": (0, len(thing)), "some": (1, len(thing)), "maybe": (0, 1)}[kind]
        pairs = [(parts[0], item) for item in thing] if least <= len(thing) <= most else None
    if pairs is None:
        return None
    words = [word_read(part, item) for part, item in pairs]
    return None if None in words else "".join(words)


def rounds_told(expression, reading):
    kind, parts = expression.kind, expression.parts
    if kind in ("one", "letter"):
        return 0
    if kind == "choice":
        return rounds_told(parts[reading[0]], reading[1])
    if kind == "row":
        return max(rounds_told(part, item) for part, item in zip(parts, reading))
    inner = max([rounds_told(parts[0], item) for item in reading], default=0)
    return inner if kind == "maybe" else max(inner, len(reading))


# Points 8 and 10

def is_table(machine, expression, thing):
    if type(thing) is not tuple:
        return False
    for pair in thing:
        if type(pair) is not tuple or len(pair) != 2 or not is_whole(pair[0]) or pair[0] not in range(machine.size):
            return False
        lot = pair[1]
        if type(lot) is not tuple or not all(is_whole(position) for position in lot):
            return False
        if lot != (-1,) and not (ascends(lot) and all(0 <= position < expression.size for position in lot)):
            return False
    if not ascends(thing) or (machine.first, (-1,)) not in thing:
        return False
    # Behind a lot by any other letter there is nothing, as behind it by z.
    letters = sorted({*machine.letters, *expression.letters, "z"})
    for state, lot in thing:
        if (state == machine.last) != is_ending(expression, lot):
            return False
        for letter in letters:
            behind = lot_behind(expression, lot, letter)
            targets = [t for s, by, t in machine.moves if s == state and by == letter]
            if targets and ((targets[0], behind) not in thing or behind == ()):
                return False
            if not targets and behind != ():
                return False
    return True


def is_paper(machine, depth, thing):
    if type(thing) is not tuple or len(thing) == 0 or type(thing[0]) is not str:
        return False
    if thing[0] == "nest" and len(thing) == 2:
        return is_nest(machine, thing[1]) and height_of(thing[1]) > depth
    if thing[0] == "expression" and len(thing) == 3 and type(thing[1]) is Expression:
        return thing[1].depth <= depth and is_table(machine, thing[1], thing[2])
    return False


def first_parting_word(machine, expression, most):
    """The first word with at most so many letters that is one of just one of both, or None."""
    right = words_within(expression, most, iter(letters_in(str(expression))))
    for word in all_words(set(machine.letters + expression.letters), most):
        if (end_of(machine, word) == machine.last) != (word in right):
            return word
    return None


# Point 15

def machine_read(thing):
    try:
        return Machine.read(thing)
    except (BadText, BadMachine):
        return None


def expression_read(thing):
    try:
        return Expression.read(thing)
    except BadText:
        return None


def is_any_word(thing):
    return type(thing) is str and set(thing) <= set(LETTERS)


def paper_read(thing):
    """A paper with the expression in the place of its text, if a text is there."""
    if type(thing) is tuple and len(thing) > 1 and thing[0] == "expression":
        return ("expression", expression_read(thing[1]), *thing[2:])
    return thing


def is_finding(thing):
    if type(thing) is not tuple or len(thing) < 3 or type(thing[0]) is not str:
        return False
    machine, expression = machine_read(thing[1]), expression_read(thing[2 if len(thing) == 4 else 1])
    match thing:
        case ("paper", _, depth, paper):
            return machine is not None and is_whole(depth) and depth >= 0 and is_paper(
                machine, depth, paper_read(paper))
        case ("same", _, _, found):
            return machine is not None and expression is not None and is_table(machine, expression, found)
        case ("apart", _, _, word):
            return machine is not None and expression is not None and is_any_word(word) and (
                (end_of(machine, word) == machine.last) != is_word_of(expression, word))
        case ("levels", _, given):
            return machine is not None and are_levels(machine, given)
        case ("witness", _, found):
            return expression is not None and is_witness(expression, found)
        case ("reading", text, word, found):
            expression = expression_read(text)
            return expression is not None and is_any_word(word) and word_read(expression, found) == word
    return False


# Point 16

def answer_told(kept, command):
    """The answer of a console that keeps a machine, or None, or the class of its error; and what it keeps then."""
    if type(command) is not str or not re.fullmatch(
            "rank|show|takes (-|[a-z]+)|flat (0|[1-9][0-9]?)|(machine|from|apart) [^\n]+", command):
        return InvalidCommand, kept
    name, _, text = command.partition(" ")
    if name == "machine":
        machine = machine_read(text.replace(";", "\n"))
        return (InvalidCommand, kept) if machine is None else ("ok", machine)
    expression = expression_read(text)
    if name in ("from", "apart") and expression is None:
        return InvalidCommand, kept
    if name == "from":
        machine = machine_told(expression)
        return ("no", kept) if machine is None else ("ok", machine)
    if kept is None:
        return NoMachine, kept
    answers = {
        "rank": lambda: str(rank_told(kept)),
        "show": lambda: str(kept).replace("\n", ";"),
        "takes": lambda: "yes" if end_of(kept, text.strip("-")) == kept.last else "no",
        "flat": lambda: "yes" if rank_told(kept) <= int(text) else "no",
        "apart": lambda: {None: "=", "": "-"}.get(word := parting_word(kept, expression), word),
    }
    return answers[name](), kept
