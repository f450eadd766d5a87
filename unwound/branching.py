"""Calls that branch again and again, for TREE PAPERS: two closed WALKS of one NAME along which the WORDS part.

Here a branching is a tuple (near, way, one, other): a NAME of a plain COMPONENT without ROWS; calls that lead
from NAME 0 to it, each with the place of its leaf; two closed WALKS of it, neither of whose WORDS begins with
the other one. From near at some WORD the two lead to near at two WORDS from which nothing comes to the same
thing. So the answers there have no part in common.
"""

from unwound.programs import leaves_of, own_table
from unwound.rows import fork_of, walk_word
from unwound.terms import calls_in
from unwound.words import first_apart

MOST_WALKS = 40
MOST_CALLS = 8


class Branchings:
    """The branchings of a PROGRAM whose COMPONENTS homes are plain and have no ROWS.

    Closed WALKS are told when they are asked for: most often the shortest ones are all that is needed.
    """

    def __init__(self, rules, homes):
        self.rules = rules
        self.homes = homes
        self.table = own_table(rules)
        self.ways = _ways_out(rules)
        self.owns = {name: own_calls_of(self.table, name)[1] for home in homes for name in home}
        self.rows = {near: [((), near, ())] for near in self.owns}
        self.closed = {near: [] for near in self.owns}

    def of_size(self, many):
        """The list of those whose two WALKS have so many calls together; of a size that is too great for the
        WALKS that are told, of those that come of FORKS."""
        if many > 2 * MOST_CALLS:
            return [self.by_fork(home) for home in self.homes]
        return [
            (near, self.ways[near], one, other) for near in sorted(self.owns)
            for one, other in self.parting_pairs(near, many)]

    def parting_pairs(self, near, many):
        """The list of the pairs of closed WALKS of near with so many calls of which neither has a WORD that begins
        with that of the other."""
        self.lengthen(near, many - 1)
        walks, pairs = self.closed[near], []
        for place, (one, word) in enumerate(walks):
            for other, after in walks[place + 1:]:
                if len(one) + len(other) == many and first_apart(word, after) is not None:
                    pairs.append((one, other))
        return pairs

    def lengthen(self, near, many):
        """Tells closed WALKS of near of at most so many calls, if they are not told."""
        row = self.rows[near]
        while len(row[0][0]) < min(many, MOST_CALLS) and len(self.closed[near]) < MOST_WALKS:
            row = [
                (walk + (call,), call[0], word + call[1])
                for walk, name, word in row for call in self.owns[name]][:MOST_WALKS]
            self.closed[near] = self.closed[near] + [(walk, word) for walk, name, word in row if name == near]
        self.rows[near] = row

    def by_fork(self, home):
        """One that comes of a FORK of the COMPONENT home."""
        near, one, other = fork_of(self.rules, home[0])
        # Of one length, and unlike: so neither begins with the other one.
        return near, self.ways[near], one + other, other + one

    def turns(self, branching, depth):
        """The TURNS by which 0 comes to the NAME of branching, and this asks along both WALKS, so many times over."""
        near, way, one, other = branching
        turns, name, word = {}, 0, ()
        for leaf, call in way:
            turns[(name, word)] = leaf
            name, word = call[0], word + call[1]
        row = [word]
        for _ in range(depth):
            row = [self.turned_along(turns, near, begun, walk) for begun in row for walk in (one, other)]
        return tuple(sorted([ask + (turns[ask],) for ask in turns]))

    def turned_along(self, turns, near, begun, walk):
        """Puts into turns that near, asked at the WORD begun, asks along walk; returns the WORD at its end."""
        name, word = near, begun
        for call in walk:
            turns[(name, word)] = own_calls_of(self.table, name)[0]
            name, word = call[0], word + call[1]
        return word


def own_calls_of(table, name):
    """The pair of the place of the leaf of name with own calls, and of these; table has the own calls."""
    return [(place, calls) for place, calls in enumerate(table[name]) if calls][0]


def _ways_out(rules):
    """For each NAME to which 0 comes: the tuple of the pairs (leaf, call), as few as can be, that lead there."""
    ways, row = {0: ()}, [0]
    while row:
        later = []
        for name in row:
            for number, leaf in enumerate(leaves_of(rules[name])):
                for call in calls_in(leaf):
                    if call[0] not in ways:
                        ways[call[0]] = ways[name] + ((number, call),)
                        later.append(call[0])
        row = later
    return ways


def grown_tree(shape, branching, knot_of, depth):
    """The TREE of shape of this depth along branching; knot_of(name, word) tells the knot of the answer there."""
    begun = tuple([step for leaf, call in branching[1] for step in call[1]])
    return _grown(shape, branching, knot_of, (knot_of(branching[0], begun),), begun, depth)


def _grown(shape, branching, knot_of, way, begun, depth):
    """The TREE of this depth whose way begins with the first knot of way; way leads to the answer at begun."""
    if depth == 0:
        return way[:1], ()
    ends = [begun + walk_word(walk) for walk in branching[2:]]
    one, other = [_way_down(shape, way[-1], knot_of(branching[0], end)) for end in ends]
    # Below the last knot that both ways have nothing of the one stands in the other.
    last = max([place for place, knot in enumerate(one) if knot in other])
    rests = (one[last + 1:], other[other.index(one[last]) + 1:])
    trees = [_grown(shape, branching, knot_of, rest, end, depth - 1) for rest, end in zip(rests, ends)]
    return way + one[1:last + 1], tuple(trees)


def _way_down(shape, top, bottom):
    """The tuple of knots from top to bottom, each with the next one among its parts."""
    leads = [False] * len(shape)
    for knot, parts in enumerate(shape):
        leads[knot] = knot == bottom or any([leads[part] for part in parts])
    way = [top]
    while way[-1] != bottom:
        way.append([part for part in shape[way[-1]] if leads[part]][0])
    return tuple(way)
