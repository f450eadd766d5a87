"""Which marked PROGRAMS are alike FOR ALL MEANINGS: PAIRS, SPLITS, MEANINGS that part them [18]."""

from unwound.common import behind_order, is_natural, is_tuple
from unwound.errors import CanNot, TooMuch, Unfit
from unwound.meanings import is_for, is_meaning, parted_of
from unwound.programs import (
    called, calls_in_order, leaves_in, reached, tables_used, way_to, with_leaves, with_names)
from unwound.terms import led, occurrences
from unwound.trees import ends_by
from unwound.wordmeanings import beginnings, ending_sides, meaning_along

MOST_PARTS_PUT_IN = 60


def is_marked(program):
    """True if program is marked."""
    met, waiting = {0: True}, [0]
    while waiting:
        rule = program[waiting.pop()]
        leaves = leaves_in(rule)
        if len({leaf[1] for leaf in leaves if leaf[0] == "make"}) < len(leaves):
            return False
        for call in calls_in_order(rule):
            if program[call[1]][0] != "ask":
                return False
            if call[1] not in met:
                met[call[1]] = True
                waiting.append(call[1])
    return True


def as_met(program):
    """The PROGRAM of the NAMES that 0 comes to, numbered as met."""
    numbers, waiting = {0: 0}, [0]
    while waiting:
        met = []
        for name in waiting:
            for call in calls_in_order(program[name]):
                if call[1] not in numbers:
                    numbers[call[1]] = len(numbers)
                    met.append(call[1])
        waiting = met
    return tuple([with_names(program[name], numbers) for name in numbers])


def put_in(program):
    """The PROGRAM in which the TERMS of NAMES with one leaf stand instead of their calls."""
    lone = [rule[0] == "leaf" for rule in program]
    lone_called = [[other for other in called(program, name) if lone[other]] for name in range(len(program))]
    met, put, many = reached(program), list(program), {}
    # NAMES with one leaf do not call one another in a ring: they could not end.
    for name in behind_order(lone_called):
        if name in met:
            many[name] = _most_parts(program[name], many, lone)
            if lone_called[name]:
                put[name] = _with_put_in(program[name], put, lone)
    return as_met(put)


def _most_parts(rule, many, lone):
    """The most parts that a leaf of rule comes to have; many has those of the leaves of lone NAMES.

    Raises TooMuch() if they are too many: what is put in, if 0 comes to it, stands in a TERM that is left.
    """
    most = max([
        sum([many[part[1]] if part[0] == "call" and lone[part[1]] else 1 for part in occurrences(leaf)])
        for leaf in leaves_in(rule)])
    if most > MOST_PARTS_PUT_IN:
        raise TooMuch()
    return most


def _with_put_in(rule, put, lone):
    """The RULE in which the TERMS that put has for lone NAMES stand instead of their calls."""
    def of_part(part):
        return led(put[part[1]][1], part[2]) if part[0] == "call" and lone[part[1]] else part
    return with_leaves(rule, of_part)


def _require_marked(one, other):
    """Raises Unfit() if one of the two is not marked."""
    if not is_marked(one) or not is_marked(other):
        raise Unfit()


def _compared(choice, other):
    """The pair of a list and a pair, for two CHOICES or TERMS: the pairs of calls that are matched there by the
    set of all pairs of NAMES; what stands at one place and does not match, None if there is none."""
    found, waiting = [], [(choice, other)]
    while waiting:
        one, two = waiting.pop()
        within = _parts_on(one, two)
        if within is None:
            return found, (one, two)
        waiting.extend(within[::-1])
        if one[0] == "call":
            found.append((one, two))
    return found, None


def _parts_on(one, two):
    """The list of the pairs of what stands within two CHOICES or TERMS that match as far as they are alike in
    themselves; None if they do not."""
    kind = one[0]
    if kind != two[0]:
        return None
    if kind == "leaf":
        return [(one[1], two[1])]
    if kind == "ask":
        return [(one[2], two[2]), (one[3], two[3])] if one[1] == two[1] else None
    if kind == "make":
        fits = one[1] == two[1] and len(one[2]) == len(two[2])
        return list(zip(one[2], two[2])) if fits else None
    return [] if tuple(one[-1]) == tuple(two[-1]) else None


def _pairs_called(one, other, pair):
    """The set of the pairs of NAMES that are called where the RULES of pair match; None if they do not."""
    calls, unlike = _compared(one[pair[0]], other[pair[1]])
    if unlike is not None:
        return None
    return sorted({(call[1], other_call[1]) for call, other_call in calls})


def _rows_told(one, other):
    """The pair of a dict and a row: for each pair of NAMES that is met from (0, 0) on, the least of the shortest
    rows that lead to it; the least of the shortest SPLITS, None if there is none.

    Rows of one length are told ascending, so the first one for a pair is the least.
    """
    rows, last = {(0, 0): ((0, 0),)}, [(0, 0)]
    while last:
        led_to = [(pair, _pairs_called(one, other, pair)) for pair in last]
        splits = [rows[pair] for pair, afters in led_to if afters is None]
        if splits:
            return rows, splits[0]
        last = []
        for pair, afters in led_to:
            for after in afters:
                if after not in rows:
                    rows[after] = rows[pair] + (after,)
                    last.append(after)
    return rows, None


def pairs_of(one, other):
    """The PAIRS that lie within all others."""
    _require_marked(one, other)
    rows, split = _rows_told(one, other)
    if split is not None:
        raise CanNot()
    return tuple(sorted(rows))


def _are_pairs_of_names(one, other, thing):
    """True if thing is a tuple, not (), of unlike pairs (NAME of one, NAME of other), (0, 0) among them."""
    if not isinstance(thing, tuple):
        return False
    for pair in thing:
        if not is_tuple(pair, 2) or not is_natural(pair[0]) or not is_natural(pair[1]):
            return False
        if pair[0] >= len(one) or pair[1] >= len(other):
            return False
    return (0, 0) in thing and len(set(thing)) == len(thing)


def is_pairs(one, other, thing):
    """True if thing is PAIRS."""
    _require_marked(one, other)
    if not _are_pairs_of_names(one, other, thing) or list(thing) != sorted(thing):
        return False
    for pair in thing:
        afters = _pairs_called(one, other, pair)
        if afters is None or not all([after in thing for after in afters]):
            return False
    return True


def are_alike(one, other):
    """True if the two are alike."""
    _require_marked(one, other)
    return _rows_told(one, other)[1] is None


def split_of(one, other):
    """Of the shortest SPLITS the least."""
    _require_marked(one, other)
    split = _rows_told(one, other)[1]
    if split is None:
        raise CanNot()
    return split


def is_split(one, other, thing):
    """True if thing is a SPLIT."""
    _require_marked(one, other)
    if not _are_pairs_of_names(one, other, thing) or thing[0] != (0, 0):
        return False
    for pair, after in zip(thing, thing[1:]):
        afters = _pairs_called(one, other, pair)
        if afters is None or after not in afters:
            return False
    return _pairs_called(one, other, thing[-1]) is None


def parting(one, other):
    """A pair (MEANING, thing), thing in parted_things of the two.

    The things are WORDS. By its TESTS both go along a SPLIT, and what they come to at its end is unlike; the first
    one ends, as at the last thing each of its NAMES goes to the leaf that it ends by.
    """
    split = split_of(one, other)
    settled, at = [], ()
    for pair, after in zip(split, split[1:]):
        number, word = _call_on(one[pair[0]], other[pair[1]], after)
        settled.append((one[pair[0]], number, at))
        at = at + word
    ends, words = _apart(one, other, split[-1])
    settled.extend([(rule, number, at + word) for rule, number, word in ends])
    things = beginnings([at] + [at + word for word in words])
    tables = tables_used([*one, *other])
    return meaning_along(things, tables, ending_sides(one, ends_by(one)), settled), 0


def _call_on(rule, other, after):
    """The first pair of the place of a leaf and of a WORD, of two RULES that match, by which the pair after of
    NAMES is called there."""
    for number, (leaf, other_leaf) in enumerate(zip(leaves_in(rule), leaves_in(other))):
        for call, other_call in _compared(leaf, other_leaf)[0]:
            if (call[1], other_call[1]) == after:
                return number, tuple(call[2])
    return None


def _apart(one, other, pair):
    """How the NAMES of pair, whose RULES do not match, come to unlike answers at one thing: the list of the triples
    (RULE, place of the leaf, WORD to the thing there) that is to be gone to, and the list of the WORDS to things
    that are to be unlike."""
    rule, other_rule = one[pair[0]], other[pair[1]]
    leaves, other_leaves = list(enumerate(leaves_in(rule))), list(enumerate(leaves_in(other_rule)))
    for number, leaf in leaves:
        for other_number, other_leaf in other_leaves:
            if leaf[1] != other_leaf[1] and _go_together(way_to(rule, number), way_to(other_rule, other_number)):
                return [(rule, number, ()), (other_rule, other_number, ())], []
    # If no two such leaves go together, both ask the same TESTS, and leaves of one place have one MAKER.
    for (number, leaf), (_, other_leaf) in zip(leaves, other_leaves):
        unlike = _compared(leaf, other_leaf)[1]
        if unlike is not None:
            settled, words = _terms_apart(one, other, unlike[0], unlike[1])
            return [(rule, number, ())] + settled, words
    return None


def _go_together(way, other):
    """True if no TEST holds on the one way and does not on the other."""
    sides = dict(way)
    return all(sides.get(test, yes) == yes for test, yes in other)


def _terms_apart(one, other, term, second):
    """The same for two TERMS that do not match: what a call comes to is made, by the MAKER of the leaf that its
    NAME goes to; it can go to two or more, of unlike MAKERS."""
    settled, maker = [], None
    if term[0] == "make":
        maker = term[1]
    elif term[0] == "call":
        number, maker = _leaf_made_unlike(one[term[1]], second[1] if second[0] == "make" else None)
        settled.append((one[term[1]], number, tuple(term[2])))
    if second[0] == "call":
        number, _ = _leaf_made_unlike(other[second[1]], maker)
        settled.append((other[second[1]], number, tuple(second[2])))
    return settled, [tuple(part[-1]) for part in (term, second) if part[0] != "make"]


def _leaf_made_unlike(rule, maker):
    """The pair of the place and of the MAKER of the first leaf of rule that has not this MAKER."""
    return [(number, leaf[1]) for number, leaf in enumerate(leaves_in(rule)) if leaf[1] != maker][0]


def is_parting(one, other, thing):
    """True if thing is a pair (MEANING, thing), the MEANING for both, the thing in parted_things of the two."""
    if not is_tuple(thing, 2) or not is_meaning(thing[0]) or not is_natural(thing[1]):
        return False
    meaning, x = thing
    if x >= meaning[0] or not is_for(meaning, one) or not is_for(meaning, other):
        return False
    return parted_of(one, other, meaning, [x]) == [x]
