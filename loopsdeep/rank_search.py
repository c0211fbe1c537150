"""Knots and ranks of sets of states. A set is kept as the sum of the bits of its states: such sums are quick keys."""


class RankSearch:
    """Finds the knots and ranks of sets of states when only some moves count; keeps each rank that it has found."""

    def __init__(self, size, moves):
        ahead = [0] * size
        behind = [0] * size
        for source, _, target in moves:
            ahead[source] = ahead[source] | (1 << target)
            behind[target] = behind[target] | (1 << source)
        self.whole = (1 << size) - 1
        self._ahead = ahead
        self._behind = behind
        self._ranks = {}

    def knots_of(self, group):
        """The knots of a set of states, that with the least state first."""
        found = []
        left = group
        while left:
            least = left & -left
            knot = reached_bits(self._ahead, group, least) & reached_bits(self._behind, group, least)
            if knot:
                found.append(knot)
            left = left & ~(knot | least)
        return found

    def rank_of(self, group):
        """The rank of a set of states."""
        if group not in self._ranks:
            self._ranks[group] = max([self._rank_of_knot(knot) for knot in self.knots_of(group)], default=0)
        return self._ranks[group]

    def split_state(self, knot):
        """A state of a knot without which its rank is least."""
        states = states_of(knot)
        best = states[0]
        for state in states:
            if self.rank_of(knot - (1 << state)) < self.rank_of(knot - (1 << best)):
                best = state
        return best

    def _rank_of_knot(self, knot):
        least = len(states_of(knot))
        for state in states_of(knot):
            least = min(least, 1 + self.rank_of(knot - (1 << state)))
            # No knot has a lesser rank, so the other states need not be tried.
            if least == 1:
                break
        return least


def reached_bits(steps, group, start):
    """The states of a set to which paths of one move or more within it lead from a state, given by its bit.

    steps has for each state the set of those that one move leads to.
    """
    found = 0
    waiting = start
    while waiting:
        least = waiting & -waiting
        fresh = steps[least.bit_length() - 1] & group & ~found
        found = found | fresh
        waiting = (waiting | fresh) & ~least
    return found


def states_of(group):
    """The ascending tuple of the states of a set."""
    return tuple([state for state in range(group.bit_length()) if group >> state & 1])


def group_of(states):
    """The set of some states, no two the same."""
    return sum([1 << state for state in states])


def least_levels(machine):
    """Levels of a machine whose greatest one is its rank.

    A state without which the rank of its knot is less gets this rank as its level; so do those of what is left.
    """
    search = RankSearch(machine.size, machine.moves)
    found = [0] * machine.size
    waiting = search.knots_of(search.whole)
    while waiting:
        knot = waiting.pop()
        state = search.split_state(knot)
        found[state] = search.rank_of(knot)
        waiting.extend(search.knots_of(knot - (1 << state)))
    return tuple(found)
