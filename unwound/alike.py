"""Which marked PROGRAMS are alike FOR ALL MEANINGS: PAIRS, SPLITS, MEANINGS that part them [18]."""

from unwound.common import behind_order, frozen, is_natural, is_tuple
from unwound.errors import CanNot, TooMuch, Unfit
from unwound.meanings import is_for, is_meaning, parted_things
from unwound.programs import called, leaves_of, reached, rule_folded, way_to, with_names
from unwound.terms import folded, led, making, occurrences
from unwound.trees import ends_by
from unwound.wordmeanings import beginnings, ending_sides, meaning_along, steps_used, tests_used

MOST_PARTS_PUT_IN = 60


def is_marked(program):
    """True if program is marked."""
    rules = frozen(program)
    for name in reached(rules):
        leaves = leaves_of(rules[name])
        if not all(leaf[0] == "make" for leaf in leaves) or len({leaf[1] for leaf in leaves}) < len(leaves):
            return False
        if not all(rules[other][0] == "ask" for other in called(rules, name)):
            return False
    return True


def as_met(program):
    """The PROGRAM of the NAMES that 0 comes to, numbered as met."""
    rules = frozen(program)
    numbers, waiting = {0: 0}, [0]
    while waiting:
        met = []
        for name in waiting:
            for other in _names_in_order(rules[name]):
                if other not in numbers:
                    numbers[other] = len(numbers)
                    met.append(other)
        waiting = met
    return tuple([with_names(rules[name], numbers) for name in numbers])


def _names_in_order(rule):
    """The list of the NAMES that the leaves of rule call, from left to right, each as often as it stands."""
    return [part[1] for leaf in leaves_of(rule) for part in occurrences(leaf) if part[0] == "call"]


def put_in(program):
    """The PROGRAM in which the TERMS of NAMES with one leaf stand instead of their calls."""
    rules = frozen(program)
    lone = [rule[0] == "leaf" for rule in rules]
    # NAMES with one leaf do not call one another in a ring: they could not end.
    order = behind_order([[other for other in called(rules, name) if lone[other]] for name in range(len(rules))])
    met, put, many = reached(rules), {}, {}
    for name in order:
        if name in met:
            many[name] = _most_parts(rules[name], many, lone)
            put[name] = _with_put_in(rules[name], put, lone)
    return as_met(tuple([put.get(name, rule) for name, rule in enumerate(rules)]))


def _most_parts(rule, many, lone):
    """The most parts that a leaf of rule comes to have; many has those of the leaves of lone NAMES.

    Raises TooMuch() if they are too many: what is put in, if 0 comes to it, stands in a TERM that is left.
    """
    most = max([
        sum([many[part[1]] if part[0] == "call" and lone[part[1]] else 1 for part in occurrences(leaf)])
        for leaf in leaves_of(rule)])
    if most > MOST_PARTS_PUT_IN:
        raise TooMuch()
    return most


def _with_put_in(rule, put, lone):
    """The RULE in which the TERMS that put has for lone NAMES stand instead of their calls."""
    def of_leaf(part):
        return led(put[part[1]][1], part[2]) if part[0] == "call" and lone[part[1]] else part
    leaves = leaves_of(rule)
    return rule_folded(
        rule, lambda number: ("leaf", folded(leaves[number], of_leaf, making)),
        lambda test, yes, no: ("ask", test, yes, no))


def _both_marked(one, other):
    """The pair of the two, with tuples for lists, if both are marked."""
    rules, others = frozen(one), frozen(other)
    if not is_marked(rules) or not is_marked(others):
        raise Unfit()
    return rules, others


def _parts_on(one, two):
    """The list of the pairs of what stands within two CHOICES or TERMS that match as far as they are alike in
    themselves; None if they do not."""
    if one[0] != two[0]:
        return None
    if one[0] == "leaf":
        return [(one[1], two[1])]
    if one[0] == "ask":
        return list(zip(one[2:], two[2:])) if one[1] == two[1] else None
    if one[0] == "make":
        fits = one[1] == two[1] and len(one[2]) == len(two[2])
        return list(zip(one[2], two[2])) if fits else None
    return [] if one[-1] == two[-1] else None


def _compared(choice, other):
    """The pair of a list and a pair, for two CHOICES or TERMS: the pairs of calls that are matched there by the
    set of all pairs of NAMES; what stands at one place and does not match, None if there is none."""
    found, waiting = [], [(choice, other)]
    while waiting:
        one, two = waiting.pop()
        within = _parts_on(one, two)
        if within is None:
            return found, (one, two)
        waiting.extend(within[::-1])
        if one[0] == "call":
            found.append((one, two))
    return found, None


def _pairs_called(rules, others, pair):
    """The set of the pairs of NAMES that are called where the RULES of pair match; None if they do not."""
    calls, unlike = _compared(rules[pair[0]], others[pair[1]])
    if unlike is not None:
        return None
    return tuple(sorted({(one[1], two[1]) for one, two in calls}))


def _rows_told(rules, others):
    """The pair of a dict and a row: for each pair of NAMES that is met from (0, 0) on, the least of the shortest
    rows that lead to it; the least of the shortest SPLITS, None if there is none.

    Rows of one length are told ascending, so the first one for a pair is the least.
    """
    rows, last = {(0, 0): ((0, 0),)}, [(0, 0)]
    while last:
        led_to = [(pair, _pairs_called(rules, others, pair)) for pair in last]
        splits = [rows[pair] for pair, after in led_to if after is None]
        if splits:
            return rows, splits[0]
        last = []
        for pair, afters in led_to:
            for after in afters:
                if after not in rows:
                    rows[after] = rows[pair] + (after,)
                    last.append(after)
    return rows, None


def pairs_of(one, other):
    """The PAIRS that lie within all others."""
    rules, others = _both_marked(one, other)
    rows, split = _rows_told(rules, others)
    if split is not None:
        raise CanNot()
    return tuple(sorted(rows))


def _are_pairs_of_names(rules, others, thing):
    """True if thing is a tuple, not (), of unlike pairs (NAME of the one, NAME of the other), (0, 0) among them."""
    if not isinstance(thing, tuple):
        return False
    for pair in thing:
        if not is_tuple(pair, 2) or not is_natural(pair[0]) or not is_natural(pair[1]):
            return False
        if pair[0] >= len(rules) or pair[1] >= len(others):
            return False
    return (0, 0) in thing and len(set(thing)) == len(thing)


def is_pairs(one, other, thing):
    """True if thing is PAIRS."""
    rules, others = _both_marked(one, other)
    if not _are_pairs_of_names(rules, others, thing) or list(thing) != sorted(thing):
        return False
    for pair in thing:
        afters = _pairs_called(rules, others, pair)
        if afters is None or not all(after in thing for after in afters):
            return False
    return True


def are_alike(one, other):
    """True if the two are alike."""
    rules, others = _both_marked(one, other)
    return _rows_told(rules, others)[1] is None


def split_of(one, other):
    """Of the shortest SPLITS the least."""
    rules, others = _both_marked(one, other)
    split = _rows_told(rules, others)[1]
    if split is None:
        raise CanNot()
    return split


def is_split(one, other, thing):
    """True if thing is a SPLIT."""
    rules, others = _both_marked(one, other)
    if not _are_pairs_of_names(rules, others, thing) or thing[0] != (0, 0):
        return False
    for pair, after in zip(thing, thing[1:]):
        afters = _pairs_called(rules, others, pair)
        if afters is None or after not in afters:
            return False
    return _pairs_called(rules, others, thing[-1]) is None


def parting(one, other):
    """A pair (MEANING, thing), thing in parted_things of the two.

    The things are WORDS. By its TESTS both go along a SPLIT, and what they come to at its end is unlike; the first
    one ends, as at the last thing each of its NAMES goes to the leaf that it ends by.
    """
    rules, others = _both_marked(one, other)
    split = split_of(rules, others)
    settled, at = [], ()
    for pair, after in zip(split, split[1:]):
        number, word = _call_on(rules[pair[0]], others[pair[1]], after)
        settled.append((rules[pair[0]], number, at))
        at = at + word
    ends, words = _apart(rules, others, split[-1])
    settled.extend([(rule, number, at + word) for rule, number, word in ends])
    things = beginnings([at] + [at + word for word in words])
    tables = (max(steps_used(rules), steps_used(others)), max(tests_used(rules), tests_used(others)))
    return meaning_along(things, tables, ending_sides(rules, ends_by(rules)), settled), 0


def _call_on(rule, other, after):
    """The first pair of the place of a leaf and of a WORD, of two RULES that match, by which the pair after of
    NAMES is called there."""
    for number, (leaf, other_leaf) in enumerate(zip(leaves_of(rule), leaves_of(other))):
        for call, other_call in _compared(leaf, other_leaf)[0]:
            if (call[1], other_call[1]) == after:
                return number, call[2]
    return None


def _apart(rules, others, pair):
    """How the NAMES of pair, whose RULES do not match, come to unlike answers at one thing: the list of the triples
    (RULE, place of the leaf, WORD to the thing there) that is to be gone to, and the list of the WORDS to things
    that are to be unlike."""
    rule, other = rules[pair[0]], others[pair[1]]
    leaves, other_leaves = list(enumerate(leaves_of(rule))), list(enumerate(leaves_of(other)))
    for number, leaf in leaves:
        for other_number, other_leaf in other_leaves:
            if leaf[1] != other_leaf[1] and _go_together(way_to(rule, number), way_to(other, other_number)):
                return [(rule, number, ()), (other, other_number, ())], []
    # If no two such leaves go together, both ask the same TESTS, and leaves of one place have one MAKER.
    for (number, leaf), (_, other_leaf) in zip(leaves, other_leaves):
        unlike = _compared(leaf, other_leaf)[1]
        if unlike is not None:
            settled, words = _terms_apart(rules, others, unlike[0], unlike[1])
            return [(rule, number, ())] + settled, words
    return None


def _go_together(way, other):
    """True if no TEST holds on the one way and does not on the other."""
    sides = dict(way)
    return all(sides.get(test, yes) == yes for test, yes in other)


def _terms_apart(rules, others, one, two):
    """The same for two TERMS that do not match: what a call comes to is made, by the MAKER of the leaf that its
    NAME goes to; it can go to two or more, of unlike MAKERS."""
    settled, maker = [], None
    if one[0] == "make":
        maker = one[1]
    elif one[0] == "call":
        number, maker = _leaf_made_unlike(rules[one[1]], two[1] if two[0] == "make" else None)
        settled.append((rules[one[1]], number, one[2]))
    if two[0] == "call":
        number, _ = _leaf_made_unlike(others[two[1]], maker)
        settled.append((others[two[1]], number, two[2]))
    return settled, [part[-1] for part in (one, two) if part[0] != "make"]


def _leaf_made_unlike(rule, maker):
    """The pair of the place and of the MAKER of the first leaf of rule that has not this MAKER."""
    return [(number, leaf[1]) for number, leaf in enumerate(leaves_of(rule)) if leaf[1] != maker][0]


def is_parting(one, other, thing):
    """True if thing is a pair (MEANING, thing), the MEANING for both, the thing in parted_things of the two."""
    rules, others = frozen(one), frozen(other)
    if not is_tuple(thing, 2) or not is_meaning(thing[0]) or not is_natural(thing[1]):
        return False
    meaning, x = thing
    return is_for(meaning, rules) and is_for(meaning, others) and x in parted_things(rules, others, meaning)
