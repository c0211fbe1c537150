"""Witnesses: what shows that no machine has the words of an expression."""


class WitnessSearch:
    """Looks for a witness where positions are in one group, but not the same can be read behind them.

    heads has for each position a word that can be read up to it, tails a word that can be read from it to an end.
    """

    def __init__(self, follows, groups):
        self.follows = follows
        self.groups = groups
        self.heads = heads_of(groups)
        self.tails = tails_of(groups)

    def first_witness(self):
        """A witness, or None if there is none."""
        gap = self.first_gap()
        if gap is None:
            return None
        return self.witness_from(gap)

    def first_gap(self):
        """A word, a position up to which it can be read, another position of its group, and a rest; or None.

        The head of the other position makes a word with the rest, the word itself makes none. A lot need not be
        followed if it has all positions of one that was met: what is missing behind it is missing behind that one, too.
        """
        order = [((-1,), "")]
        met = {}
        place = 0
        while place < len(order):
            lot, word = order[place]
            behind = self.follows.lots_behind(lot)
            missing = self.missing_behind(lot, behind)
            if missing is not None:
                other, rest = missing
                return word, lot[0], other, rest
            for letter, after in behind.items():
                known = met.setdefault(self.groups.group_of[after[0]], [])
                bits = sum([1 << position for position in after])
                if not has_part(known, bits):
                    known.append(bits)
                    order.append((after, word + letter))
            place += 1
        return None

    def missing_behind(self, lot, behind):
        """A position of the group of a lot with a rest that can be read from it, but not from the lot; or None."""
        groups = self.groups
        group = groups.group_of[lot[0]]
        if group == groups.group_of[groups.ends[0]] and not self.follows.is_end(lot):
            return groups.ends[0], ""
        for letter, step in groups.ways[group].items():
            if letter not in behind:
                return step[0], letter + self.tails[step[1]]
        return None

    def witness_from(self, gap):
        """A witness that a gap leads to.

        The word of the gap leads to the position no, but does not go on with the rest; the head of yes does. The two
        were joined link by link, so the heads of two with a link differ in this. The reason of this link gives a
        witness, or else a gap between positions that had been joined before.
        """
        word, no, yes, rest = gap
        while not self.is_read(no, rest):
            yes, no = self.linked_pair(yes, no, rest)
            kind, near, far = self.groups.links[yes][no]
            if kind == "end":
                return self.heads[yes], self.heads[no], "", rest
            if kind == "before":
                back = self.groups.letters[near] + self.tails[near]
                if self.is_read(no, back):
                    return self.heads[yes], self.heads[no], back, rest
                word, rest = self.heads[no] + self.groups.letters[near], self.tails[near]
            else:
                letter = self.groups.letters[yes]
                if not self.is_read(near, letter + rest):
                    return self.heads[yes], self.heads[near] + letter, self.tails[yes], rest
                if self.is_read(far, letter + rest):
                    return self.heads[far] + letter, self.heads[no], self.tails[no], rest
                word, rest = self.heads[far], letter + rest
            yes, no = near, far
        return self.heads[no], word, self.tails[no], rest

    def is_read(self, position, rest):
        """Whether the head of a position makes a word with a rest."""
        return self.follows.reads(self.heads[position] + rest)

    def linked_pair(self, yes, no, rest):
        """Two positions with a link, on the way between two others: the rest goes on from the first of them alone."""
        path = linked_path(self.groups.links, yes, no)
        low = 0
        high = len(path) - 1
        while high - low > 1:
            middle = (low + high) // 2
            if self.is_read(path[middle], rest):
                low = middle
            else:
                high = middle
        return path[low], path[high]


def has_part(known, bits):
    """Whether all bits of some known sum of bits are among those of another one."""
    return any([part & ~bits == 0 for part in known])


def linked_path(links, begin, end):
    """The positions along the links from a position of a group to another one."""
    onward = first_steps([end], links)
    path = [begin]
    while path[-1] != end:
        path.append(onward[path[-1]])
    return path


def first_steps(starts, ahead):
    """A dict of the positions to which steps lead from some positions, each one with that from which it was met."""
    met = {start: None for start in starts}
    order = list(starts)
    place = 0
    while place < len(order):
        before = order[place]
        for position in ahead[before]:
            if position not in met:
                met[position] = before
                order.append(position)
        place += 1
    return met


def heads_of(groups):
    """For each position a word that can be read up to it."""
    ahead = {position: [] for position in groups.group_of}
    for source, target in groups.steps:
        ahead[source].append(target)
    heads = {}
    for position, before in first_steps([-1], ahead).items():
        heads[position] = "" if before is None else heads[before] + groups.letters[position]
    return heads


def tails_of(groups):
    """For each position a word that can be read from it to an end."""
    behind = {position: [] for position in groups.group_of}
    for source, target in groups.steps:
        behind[target].append(source)
    tails = {}
    for position, after in first_steps(groups.ends, behind).items():
        tails[position] = "" if after is None else groups.letters[after] + tails[after]
    return tails
