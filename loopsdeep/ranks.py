"""How deep ways round lie within one another: knots, ranks, levels, nests, and the moves that have to be closed."""

from itertools import combinations

from loopsdeep.machine_checks import is_state
from loopsdeep.rank_search import RankSearch, group_of, least_levels, states_of
from loopsdeep.values import is_number


def knots(machine, states):
    """The ascending tuple of the knots of some states, each one an ascending tuple."""
    search = RankSearch(machine.size, machine.moves)
    return tuple([states_of(knot) for knot in search.knots_of(group_of(states))])


def rank(machine):
    """The rank of a machine."""
    return rank_by(machine, machine.moves)


def rank_by(machine, moves):
    """The rank of all states of a machine when only some of its moves count."""
    search = RankSearch(machine.size, moves)
    return search.rank_of(search.whole)


def levels(machine):
    """Levels of a machine whose greatest one is the rank."""
    return least_levels(machine)


def levels_hold(machine, thing):
    """Whether any value is levels of a machine."""
    if not isinstance(thing, tuple) or len(thing) != machine.size:
        return False
    if not all([is_number(level) and level >= 0 for level in thing]):
        return False
    return all([is_apart(machine, thing, level) for level in sorted(set(thing))])


def is_apart(machine, given, level):
    """Whether no knot of the states up to a level has more states of this level than it may have."""
    states = tuple([state for state in range(machine.size) if given[state] <= level])
    counts = [len([state for state in knot if given[state] == level]) for knot in knots(machine, states)]
    return max(counts, default=0) <= min(level, 1)


def nest(machine):
    """A nest whose height is the rank of a machine."""
    search = RankSearch(machine.size, machine.moves)
    height = search.rank_of(search.whole)
    met = set()
    waiting = []
    if height > 0:
        waiting.append((height, knot_of_rank(search, search.whole, height)))
    while waiting:
        number, knot = waiting.pop()
        if (number, knot) in met:
            continue
        met.add((number, knot))
        if number > 1:
            for state in states_of(knot):
                waiting.append((number - 1, knot_of_rank(search, knot - (1 << state), number - 1)))
    return tuple(sorted([(number, states_of(knot)) for number, knot in sorted(met)]))


def knot_of_rank(search, group, least):
    """The first knot of a set of states whose rank is not less than told."""
    return [knot for knot in search.knots_of(group) if search.rank_of(knot) >= least][0]


def nest_holds(machine, thing):
    """Whether any value is a nest of a machine."""
    if not isinstance(thing, tuple) or not all([is_numbered(machine, pair) for pair in thing]):
        return False
    if list(thing) != sorted(set(thing)):
        return False
    search = RankSearch(machine.size, machine.moves)
    groups = {}
    for number, states in thing:
        groups.setdefault(number, []).append(group_of(states))
    for number, found in groups.items():
        below = groups.get(number - 1, [])
        for group in found:
            if search.knots_of(group) != [group] or (number > 1 and not is_covered(group, below)):
                return False
    return True


def is_numbered(machine, thing):
    """Whether any value is a number from 1 on with an ascending tuple of one state or more."""
    if not isinstance(thing, tuple) or len(thing) != 2:
        return False
    number, states = thing
    if not is_number(number) or number < 1 or not isinstance(states, tuple) or not states:
        return False
    return all([is_state(state, machine.size) for state in states]) and list(states) == sorted(set(states))


def is_covered(group, below):
    """Whether for each state of a set, one of some other sets has only states of it, and not this one."""
    shared = group
    for other in below:
        if other & ~group == 0:
            shared = shared & other
    return shared == 0


def least_cuts(machine):
    """The ascending tuple of all ascending tuples of as few moves as possible without which the rank is less."""
    whole = rank(machine)
    if whole == 0:
        return ()
    for many in range(1, len(machine.moves) + 1):
        found = cuts_of(machine, many, whole)
        if found:
            return found
    return ()


def cuts_of(machine, many, limit):
    """The ascending tuple of all ascending tuples of so many moves without which the rank is less than a limit."""
    found = []
    for cut in combinations(list(machine.moves), many):
        if rank_by(machine, [move for move in machine.moves if move not in cut]) < limit:
            found.append(cut)
    return tuple(found)
