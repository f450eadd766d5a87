"""Calls that branch again and again, for TREE PAPERS: two closed WALKS of one NAME along which the WORDS part.

Here a branching is a tuple (near, way, one, other): a NAME of a plain COMPONENT without ROWS; calls that lead
from NAME 0 to it, each with the place of its leaf; two closed WALKS of it, neither of whose WORDS begins with
the other one. From near at some WORD the two lead to near at two WORDS from which nothing comes to the same
thing. So the answers there have no part in common.
"""

from unwound.programs import leaves_of, own_table
from unwound.rows import barred, fork_of, walk_word
from unwound.terms import calls_in
from unwound.words import first_apart

MOST_WALKS = 40
MOST_CALLS = 8
MOST_BRANCHINGS = 12


def shortest_branchings(rules):
    """The list of some branchings of the PROGRAM rules, those with few calls first; a COMPONENT has no ROWS."""
    table, ways, found = own_table(rules), _ways_out(rules), []
    for home in barred(rules):
        owns = {name: own_calls_of(table, name)[1] for name in home}
        for near in home:
            pairs = _parting_pairs(_short_walks(owns, near))
            found.extend([(len(one) + len(other), (near, ways[near], one, other)) for one, other in pairs])
        near, one, other = fork_of(rules, home[0])
        # Of one length, and unlike: so neither begins with the other one.
        found.append((2 * (len(one) + len(other)), (near, ways[near], one + other, other + one)))
    return [branching for _, branching in sorted(found)[:MOST_BRANCHINGS]]


def own_calls_of(table, name):
    """The pair of the place of the leaf of name with own calls, and of these; table has the own calls."""
    return [(place, calls) for place, calls in enumerate(table[name]) if calls][0]


def _short_walks(owns, near):
    """The list of some closed WALKS of near, those with few calls; owns has the own calls of each NAME."""
    closed, row = [], [((), near)]
    for _ in range(MOST_CALLS):
        row = [(walk + (call,), call[0]) for walk, name in row for call in owns[name]][:MOST_WALKS]
        closed.extend([walk for walk, name in row if name == near])
    return closed[:MOST_WALKS]


def _parting_pairs(walks):
    """The list of the pairs of walks of which neither has a WORD that begins with that of the other."""
    return [
        (one, other) for place, one in enumerate(walks) for other in walks[place + 1:]
        if first_apart(walk_word(one), walk_word(other)) is not None]


def _ways_out(rules):
    """For each NAME to which 0 comes: the tuple of the pairs (leaf, call), as few as can be, that lead there."""
    ways, row = {0: ()}, [0]
    while row:
        later = []
        for name in row:
            for number, leaf in enumerate(leaves_of(rules[name])):
                for call in calls_in(leaf):
                    if call[0] not in ways:
                        ways[call[0]] = ways[name] + ((number, call),)
                        later.append(call[0])
        row = later
    return ways


def branching_turns(rules, branching, depth):
    """The TURNS by which 0 comes to the NAME of branching, and this asks along both WALKS, so many times over."""
    near, way, one, other = branching
    table, turns, name, word = own_table(rules), {}, 0, ()
    for leaf, call in way:
        turns[(name, word)] = leaf
        name, word = call[0], word + call[1]
    row = [word]
    for _ in range(depth):
        row = [_turned_along(table, turns, near, begun, walk) for begun in row for walk in (one, other)]
    return tuple(sorted([ask + (turns[ask],) for ask in turns]))


def _turned_along(table, turns, near, begun, walk):
    """Puts into turns that near, asked at the WORD begun, asks along walk; returns the WORD at its end."""
    name, word = near, begun
    for call in walk:
        turns[(name, word)] = own_calls_of(table, name)[0]
        name, word = call[0], word + call[1]
    return word


def grown_tree(shape, branching, knot_of, depth):
    """The TREE of shape of this depth along branching; knot_of(name, word) tells the knot of the answer there."""
    begun = tuple([step for leaf, call in branching[1] for step in call[1]])
    return _grown(shape, branching, knot_of, (knot_of(branching[0], begun),), begun, depth)


def _grown(shape, branching, knot_of, way, begun, depth):
    """The TREE of this depth whose way begins with the first knot of way; way leads to the answer at begun."""
    if depth == 0:
        return way[:1], ()
    ends = [begun + walk_word(walk) for walk in branching[2:]]
    one, other = [_way_down(shape, way[-1], knot_of(branching[0], end)) for end in ends]
    # Below the last knot that both ways have nothing of the one stands in the other.
    last = max([place for place, knot in enumerate(one) if knot in other])
    rests = (one[last + 1:], other[other.index(one[last]) + 1:])
    trees = [_grown(shape, branching, knot_of, rest, end, depth - 1) for rest, end in zip(rests, ends)]
    return way + one[1:last + 1], tuple(trees)


def _way_down(shape, top, bottom):
    """The tuple of knots from top to bottom, each with the next one among its parts."""
    leads = [False] * len(shape)
    for knot, parts in enumerate(shape):
        leads[knot] = knot == bottom or any([leads[part] for part in parts])
    way = [top]
    while way[-1] != bottom:
        way.append([part for part in shape[way[-1]] if leads[part]][0])
    return tuple(way)
