"""Positions of an expression that would stand for one state, if some machine had its words."""


class Groups:
    """The positions of an expression, -1 among them, in groups: each group is a state of the machine, if there is one.

    Two positions are joined if words end at both, if one letter leads from both to one group, or if it leads from one
    group to both. For each position, links has those that were joined to it, each with the reason: a kind, and for
    each of both a position that belongs to the reason. With "end" words end at both, and these positions mean nothing;
    with "before" the two lead to them; with "behind" they lead to the two. Links never come round: the only way from
    one position of a group to another one along links is the one by which the two came together.
    """

    def __init__(self, follows):
        self.letters = follows.letters
        self.steps = steps_of(follows)
        positions = range(-1, len(self.letters))
        self.group_of = {position: position for position in positions}
        self.links = {position: {} for position in positions}
        self._members = {position: [position] for position in positions}
        self.ends = ends_of(follows)
        for end in self.ends:
            self._join(self.ends[0], end, ("end", -1, -1))
        while self._join_along_steps():
            pass
        self.ways = ways_of(self)

    def _join_along_steps(self):
        """Joins what is found going once through all steps, and returns whether there was anything."""
        many = len(self._members)
        ahead = {}
        behind = {}
        for source, target in self.steps:
            letter = self.letters[target]
            before, after = ahead.setdefault((self.group_of[source], letter), (source, target))
            self._join(target, after, ("behind", source, before))
            before, after = behind.setdefault((self.group_of[target], letter), (source, target))
            self._join(source, before, ("before", target, after))
        return len(self._members) < many

    def _join(self, position, other, reason):
        """Makes one group of the groups of two positions, if they are two."""
        kept = self.group_of[position]
        given = self.group_of[other]
        if kept == given:
            return
        if len(self._members[kept]) < len(self._members[given]):
            kept, given = given, kept
        for member in self._members[given]:
            self.group_of[member] = kept
        self._members[kept].extend(list(self._members[given]))
        del self._members[given]
        kind, near, far = reason
        self.links[position][other] = (kind, near, far)
        self.links[other][position] = (kind, far, near)


def ends_of(follows):
    """The positions at which words end, -1 among them if the empty word is one."""
    ends = sorted(follows.lasts)
    if follows.is_empty_read:
        ends.append(-1)
    return ends


def steps_of(follows):
    """Pairs of a position and one that can be read directly behind it.

    A joint leads from each one of its first tuple to each one of its second. Pairs with the first one of either tuple
    are enough of them: such a pair joins the other positions of a tuple, or those of them with one letter.
    """
    steps = []
    for sources, targets in [((-1,), follows.firsts), *follows.joints]:
        if sources and targets:
            steps.extend([(source, targets[0]) for source in sources])
            steps.extend([(sources[0], target) for target in targets[1:]])
    return steps


def ways_of(groups):
    """For each group a dict of its letters, each with a step by which it leads from the group."""
    ways = {group: {} for group in groups.group_of.values()}
    for source, target in groups.steps:
        ways[groups.group_of[source]][groups.letters[target]] = (source, target)
    return ways
