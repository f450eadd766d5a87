"""SHAPES of what is made, PLAYS that make it in few cells, CLOSED and TREES that stand against PLAYS [10].

Sets of knots are told as numbers here, one bit for each knot: there are many of them.
"""

from unwound.common import frozen, is_natural, is_tuple
from unwound.errors import CanNot
from unwound.terms import parts_with_places


def is_shape(thing):
    """True if thing is a SHAPE."""
    if not isinstance(thing, tuple) or not thing:
        return False
    if not all(_is_set_below(parts, knot) for knot, parts in enumerate(thing)):
        return False
    # No knot is a part of itself or of one ahead of it: so the top is a part of none.
    return len({part for parts in thing for part in parts}) == len(thing) - 1


def _is_set_below(thing, many):
    """True if thing is a set of numbers below many."""
    if not isinstance(thing, tuple) or not all(is_natural(number) and number < many for number in thing):
        return False
    return _is_ascending(thing)


def _is_ascending(numbers):
    """True if each one is less than the next one."""
    return all(one < other for one, other in zip(numbers, numbers[1:]))


def shape_of(term):
    """The SHAPE whose knots are the unlike parts of term."""
    return tuple([tuple(sorted(set(places))) for part, places in parts_with_places(frozen(term))])


def _bits(knots):
    """The set of these knots as a number."""
    return sum([1 << knot for knot in knots])


def _knots_in(held):
    """The list, ascending, of the knots of a set that is told as a number."""
    return [knot for knot in range(held.bit_length()) if held >> knot & 1]


def _puts(needs, many, held):
    """The list of the pairs (knot, set then): what can be put in where held lies in so many cells.

    Where a cell is empty it is taken: to keep more does no harm.
    """
    knots, found = _knots_in(held), []
    for knot, needed in enumerate(needs):
        if held & needed == needed and not held >> knot & 1:
            more = held | 1 << knot
            if len(knots) < many:
                found.append((knot, more))
            else:
                found.extend([(knot, more - (1 << gone)) for gone in knots])
    return found


def _searched(shape, many):
    """The pair of a dict and a set of knots: for each set that can come to lie in so many cells the set
    ahead of it and the knot put in, by as few puts as can be; the first set with the top, or None."""
    needs, top = [_bits(parts) for parts in shape], len(shape) - 1
    origins, row = {0: None}, [0]
    while row:
        later = []
        for held in row:
            for knot, then in _puts(needs, many, held):
                if then not in origins:
                    origins[then] = (held, knot)
                    later.append(then)
                    if knot == top:
                        return origins, then
        row = later
    return origins, None


def _way_back(origins, last):
    """The list, in order, of the triples (set ahead, knot put in, set then) that lead to last."""
    way, then = [], last
    while origins[then] is not None:
        held, knot = origins[then]
        way.append((held, knot, then))
        then = held
    way.reverse()
    return way


def _least_cells(shape, search):
    """The least many for which search(shape, many) comes to a last set."""
    many = max([1] + [len(parts) for parts in shape])
    while search(shape, many)[1] is None:
        many += 1
    return many


def _in_cells(way, kept):
    """The tuple of the pairs (knot, cell) for way: of the cells in which nothing lies that is in
    kept(set then) the least one is taken."""
    cells, play = [], []
    for _, knot, then in way:
        kept_then = kept(then)
        free = [cell for cell, held in enumerate(cells) if not kept_then >> held & 1]
        if not free:
            free = [len(cells)]
            cells.append(knot)
        cells[free[0]] = knot
        play.append((knot, free[0]))
    return tuple(play)


def web_cells(shape):
    """The least many with which there is a PLAY of shape."""
    return _least_cells(frozen(shape), _searched)


def web_play(shape):
    """A PLAY of shape with as few cells as can be."""
    knots = frozen(shape)
    origins, last = _searched(knots, web_cells(knots))
    return _in_cells(_way_back(origins, last), lambda then: then)


def is_play(shape, many, thing):
    """True if thing is a PLAY of shape with many."""
    knots = frozen(shape)
    if not isinstance(thing, tuple) or not thing:
        return False
    cells = {}
    for put in thing:
        if not is_tuple(put, 2) or not is_natural(put[0]) or not is_natural(put[1]):
            return False
        if put[0] >= len(knots) or put[1] >= many:
            return False
        lying = list(cells.values())
        if not all(part in lying for part in knots[put[0]]):
            return False
        cells[put[1]] = put[0]
    return thing[-1][0] == len(knots) - 1


def fewest_puts(shape, many):
    """The least length of a PLAY of shape with many."""
    origins, last = _searched(frozen(shape), many)
    if last is None:
        raise CanNot()
    return len(_way_back(origins, last))


def _searched_sparing(shape, many):
    """The same as _searched, for sets of knots that were put in, none twice, and of which no more than
    many are needed further on at a time."""
    needs, whole = [_bits(parts) for parts in shape], (1 << len(shape)) - 1
    origins, row = {0: None}, [0]
    while row:
        later = []
        for done in row:
            for knot, then in _puts(needs, len(shape), done):
                if then not in origins and len(_knots_in(_still_needed(needs, then))) <= many:
                    origins[then] = (done, knot)
                    later.append(then)
        row = later
    return origins, whole if whole in origins else None


def _still_needed(needs, done):
    """Of the knots in done those that are parts of knots that are not, as a number."""
    needed = 0
    for knot, parts in enumerate(needs):
        if not done >> knot & 1:
            needed = needed | parts
    return needed & done


def sparing_cells(shape):
    """The least many with which there is a sparing PLAY of shape."""
    return _least_cells(frozen(shape), _searched_sparing)


def sparing_play(shape):
    """A sparing PLAY of shape with as few cells as can be."""
    knots = frozen(shape)
    needs = [_bits(parts) for parts in knots]
    origins, last = _searched_sparing(knots, sparing_cells(knots))
    return _in_cells(_way_back(origins, last), lambda then: _still_needed(needs, then))


def is_sparing(shape, many, thing):
    """True if thing is a sparing PLAY of shape with many."""
    return is_play(shape, many, thing) and len({knot for knot, cell in thing}) == len(thing)


def closed_sets(shape, many):
    """A CLOSED of shape for many: all sets that can come to lie in many cells, all of them filled.

    As long as a cell is empty something can be put into it; so each other such set is within one.
    """
    origins, last = _searched(frozen(shape), many)
    if last is not None:
        raise CanNot()
    sets = [tuple(_knots_in(held)) for held in origins]
    return tuple(sorted([own for own in sets if len(own) == many]))


def is_closed(shape, many, thing):
    """True if thing is a CLOSED of shape for many."""
    knots = frozen(shape)
    if not isinstance(thing, tuple) or not thing:
        return False
    if not all(_is_set_below(own, len(knots) - 1) and len(own) <= many for own in thing):
        return False
    return _is_ascending(thing) and _is_closed_in(knots, many, [_bits(own) for own in thing])


def _is_closed_in(shape, many, sets):
    """True if all that can be put in where one of sets lies leads to what is within one of them."""
    needs = [_bits(parts) for parts in shape]
    within = set(sets)
    for held in sets:
        for _, then in _puts(needs, many, held):
            if then not in within:
                if not any(then & own == then for own in sets):
                    return False
                within.add(then)
    return True


def is_tree(shape, depth, thing):
    """True if thing is a TREE of shape of this depth."""
    knots = frozen(shape)
    met = set()
    waiting = [(depth, None, thing)]
    while waiting:
        left, above, tree = waiting.pop()
        if not is_tuple(tree, 2) or not _is_way(knots, tree[0]):
            return False
        way, trees = tree
        if above is not None and way[0] not in knots[above]:
            return False
        for knot in way:
            if knot in met:
                return False
            met.add(knot)
        if not is_tuple(trees, 2 if left else 0):
            return False
        waiting.extend([(left - 1, way[-1], own) for own in trees])
    return True


def _is_way(shape, thing):
    """True if thing is a tuple, not (), of knots, each with the next one among its parts."""
    if not isinstance(thing, tuple) or not thing:
        return False
    if not all(is_natural(knot) and knot < len(shape) for knot in thing):
        return False
    return all(part in shape[knot] for knot, part in zip(thing, thing[1:]))
