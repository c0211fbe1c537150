"""Machines and expressions with the same words, and papers on the least depth of such expressions."""

from loopsdeep.elimination import expression_by
from loopsdeep.errors import BadLevels
from loopsdeep.expressions import Expression
from loopsdeep.follows import Follows
from loopsdeep.machine_checks import is_state
from loopsdeep.positions import is_lot
from loopsdeep.rank_search import least_levels
from loopsdeep.ranks import levels_hold, nest, nest_holds, rank


def expression_for(machine, *, levels=None):
    """An expression with the words of a machine, its depth the rank or, if levels are told, at most the greatest."""
    if levels is None:
        return expression_by(machine, least_levels(machine))
    if not levels_hold(machine, levels):
        raise BadLevels(levels)
    return expression_by(machine, levels)


def table(machine, expression):
    """A table for a machine and an expression, or None if they have not the same words."""
    follows = Follows(expression)
    states = {(-1,): machine.first}
    waiting = [(-1,)]
    while waiting:
        lot = waiting.pop()
        behind = follows.lots_behind(lot)
        if not is_matched(machine, follows, (states[lot], lot), behind):
            return None
        for sign, after in behind.items():
            target = machine.after(states[lot], sign)
            if after not in states:
                states[after] = target
                waiting.append(after)
            # Two states have no word to the last one in common, so one lot cannot stand for both.
            elif states[after] != target:
                return None
    return tuple(sorted([(state, lot) for lot, state in states.items()]))


def is_matched(machine, follows, pair, behind):
    """Whether a state and a lot, which has some lots behind it, end alike and go on by the same letters."""
    state, lot = pair
    if (state == machine.last) != follows.is_end(lot):
        return False
    return sorted(behind) == [sign for sign in machine.letters if machine.after(state, sign) is not None]


def table_holds(machine, expression, thing):
    """Whether any value is a table for a machine and an expression."""
    if not isinstance(thing, tuple) or not all([is_pair(machine, expression, pair) for pair in thing]):
        return False
    pairs = set(thing)
    if (machine.first, (-1,)) not in pairs or list(thing) != sorted(pairs):
        return False
    follows = Follows(expression)
    for pair in thing:
        behind = follows.lots_behind(pair[1])
        if not is_matched(machine, follows, pair, behind):
            return False
        for sign, after in behind.items():
            if (machine.after(pair[0], sign), after) not in pairs:
                return False
    return True


def is_pair(machine, expression, thing):
    """Whether any value is a pair of a state and a lot."""
    if not isinstance(thing, tuple) or len(thing) != 2:
        return False
    return is_state(thing[0], machine.size) and is_lot(expression, thing[1])


def parting_word(machine, expression):
    """The first shortest word that is one of just one of a machine and an expression, or None."""
    follows = Follows(expression)
    letters = sorted(set(machine.letters + expression.letters))
    pairs = [(machine.first, (-1,))]
    ways = [(-1, "")]
    met = set(pairs)
    place = 0
    while place < len(pairs):
        state, lot = pairs[place]
        if (state == machine.last) != follows.is_end(lot):
            return word_along(ways, place)
        behind = follows.lots_behind(lot)
        for sign in letters:
            pair = (machine.after(state, sign), behind.get(sign, ()))
            # Behind None and () no word is read any more.
            if pair not in met and pair != (None, ()):
                met.add(pair)
                pairs.append(pair)
                ways.append((place, sign))
        place += 1
    return None


def word_along(ways, place):
    """The word of the letters along ways, pairs of the place before and a letter, that lead to a place."""
    signs = []
    while place > 0:
        place, sign = ways[place]
        signs.append(sign)
    return "".join(signs[::-1])


def judge(machine, depth):
    """A paper for a machine and a depth."""
    if rank(machine) > depth:
        return "nest", nest(machine)
    expression = expression_for(machine)
    return "expression", expression, table(machine, expression)


def judge_holds(machine, depth, thing):
    """Whether any value is a paper for a machine and a depth."""
    if not isinstance(thing, tuple):
        return False
    if len(thing) == 2 and thing[0] == "nest":
        return nest_holds(machine, thing[1]) and thing[1] != () and thing[1][-1][0] > depth
    if len(thing) != 3 or thing[0] != "expression" or not isinstance(thing[1], Expression):
        return False
    return thing[1].depth <= depth and table_holds(machine, thing[1], thing[2])
