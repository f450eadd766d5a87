"""Free MEANINGS of TURNS, and TREE PAPERS: why few cells do not make an answer [16].

Asking by TURNS is told by pairs (name, word): the NAME is asked at the WORD.
"""

from unwound.branching import MOST_CALLS, Branchings, grown_tree
from unwound.common import frozen, is_natural, is_tuple
from unwound.errors import CanNot
from unwound.loops import end_of
from unwound.meanings import MOST_MAKINGS_WITHIN, MOST_PARTS, answer, asked_of, numbered
from unwound.pebbles import is_tree
from unwound.programs import leaves_in, leaves_of, tables_used, tests_of, way_to
from unwound.rows import barred_plain
from unwound.terms import calls_in, folded, words_in
from unwound.wordmeanings import beginnings, steps_along
from unwound.words import is_word

MOST_BRANCHINGS = 12


def ends_by(program):
    """The tuple with, for each NAME, the place of the leaf that it ends by."""
    needed = [[sorted({name for name, word in calls_in(leaf)}) for leaf in leaves_in(rule)] for rule in program]
    ends = [None] * len(needed)
    while None in ends:
        # What gets its leaf in one round does not count until the next one.
        ahead = list(ends)
        for name, leaves in enumerate(needed):
            if ahead[name] is None:
                ends[name] = _first_ending(leaves, ahead)
    return tuple(ends)


def _first_ending(leaves, ends):
    """The first place in leaves of NAMES all of which have an end; None if there is none."""
    for place, names in enumerate(leaves):
        if all(ends[name] is not None for name in names):
            return place
    return None


def _goes(rules, turns):
    """The pair of a dict with the leaf of each pair (name, word) of TURNS, and of what NAMES end by."""
    return {(name, word): leaf for name, word, leaf in turns}, ends_by(rules)


def _leaf_at(goes, name, word):
    """The place of the leaf to which name goes at word."""
    return goes[0].get((name, word), goes[1][name])


def _free_words(rules, goes):
    """The words of TURNS."""
    leaves = [leaves_of(rule) for rule in rules]
    met, waiting, ends = {(0, ()): True}, [(0, ())], [()]
    while waiting:
        name, word = waiting.pop()
        leaf = leaves[name][_leaf_at(goes, name, word)]
        ends.extend([word + own for own in words_in(leaf)])
        for called, own in calls_in(leaf):
            ask = (called, word + own)
            if ask not in met:
                met[ask] = True
                waiting.append(ask)
    return beginnings(ends)


def free_words(program, turns):
    """The words of TURNS, shorter ones first."""
    rules = frozen(program)
    return _free_words(rules, _goes(rules, frozen(turns)))


def free_meaning(program, turns):
    """The free MEANING of TURNS."""
    rules = frozen(program)
    goes = _goes(rules, frozen(turns))
    words = _free_words(rules, goes)
    held = _held(rules, goes, words)
    nowhere = (False,) * (len(words) + 1)
    many_steps, many_tests = tables_used(rules)
    tests = [held.get(test, nowhere) for test in range(many_tests)]
    return len(words) + 1, steps_along(words, many_steps), tuple(tests)


def _held(rules, goes, words):
    """For each TEST of rules: the tuple with, for each word and for the last thing, whether it holds there."""
    held = {}
    for name, rule in enumerate(rules):
        sides = [dict(way_to(rule, leaf)) for leaf in range(len(leaves_of(rule)))]
        gone = [sides[_leaf_at(goes, name, word)] for word in words] + [sides[goes[1][name]]]
        for test in tests_of(rule):
            held[test] = tuple([side.get(test, False) for side in gone])
    return held


def answer_shape(program, meaning, start):
    """The SHAPE of the answer of NAME 0 at the thing start, however great it is."""
    rules, sense = asked_of(program, meaning, 0, start)
    numbers = {}
    told = numbered(rules, sense, [(0, start)], numbers)
    if (0, start) not in told:
        raise CanNot()
    parts = _parts_of(numbers)
    return _shape_of(parts, _knots_of(parts, told[(0, start)]))


def _parts_of(numbers):
    """For each number, in order: the numbers of the parts of the VALUE that has it in numbers, as they stand."""
    return [() if key[0] == "thing" else key[1] for key in numbers]


def _knots_of(parts, top):
    """For each part of top, by its number, its knot: behind its own parts, from left to right; parts has those
    of each number."""
    knots, waiting = {}, [top]
    while waiting:
        number = waiting[-1]
        lacking = [part for part in parts[number] if part not in knots]
        if lacking:
            waiting.append(lacking[0])
        else:
            knots.setdefault(number, len(knots))
            waiting.pop()
    return knots


def _shape_of(parts, knots):
    """The SHAPE of what has these knots."""
    return tuple([tuple(sorted({knots[part] for part in parts[number]})) for number in knots])


def _numbered_by_turns(rules, goes, numbers):
    """For each pair (name, word) that is asked by TURNS: the number that its answer has in numbers.

    In the free MEANING each WORD at which something is asked, or of a thing, is a thing of its own.
    """
    leaves = [[(leaf, calls_in(leaf)) for leaf in leaves_of(rule)] for rule in rules]
    told, waiting = {}, [(0, ())]
    while waiting:
        name, word = waiting[-1]
        leaf, calls = leaves[name][_leaf_at(goes, name, word)]
        lacking = [(called, word + own) for called, own in calls if (called, word + own) not in told]
        if lacking:
            waiting.append(lacking[0])
        else:
            told[(name, word)] = _number_told(leaf, word, told, numbers)
            waiting.pop()
    return told


def _number_told(leaf, word, told, numbers):
    """The number in numbers of what leaf comes to at word, told having those of all for which it asks."""
    def of_leaf(part):
        if part[0] == "call":
            return told[(part[1], word + part[2])]
        return numbers.setdefault(("thing", word + part[1]), len(numbers))
    return folded(leaf, of_leaf, lambda maker, parts: numbers.setdefault((maker, tuple(parts)), len(numbers)))


def _shape_by_turns(rules, turns):
    """The SHAPE of the answer of NAME 0 by TURNS; a dict with the knot of the answer of each pair (name, word)
    that is asked; and whether the answer is too great to be told."""
    numbers = {}
    told = _numbered_by_turns(rules, _goes(rules, turns), numbers)
    parts = _parts_of(numbers)
    knots = _knots_of(parts, told[(0, ())])
    return _shape_of(parts, knots), {ask: knots[told[ask]] for ask in told}, _is_too_great(parts)


def _is_too_great(parts):
    """True if the last VALUE that was numbered, whose parts are all the others, is too great."""
    sizes, depths = [], []
    for own in parts:
        sizes.append(1 + sum([sizes[part] for part in own]))
        depths.append(1 + max([depths[part] for part in own]) if own else 0)
    return max(sizes) > MOST_PARTS or max(depths) > MOST_MAKINGS_WITHIN


def tree_paper(program, depth):
    """A TREE PAPER of program for depth."""
    rules = frozen(program)
    homes = barred_plain(rules)
    if not homes:
        raise CanNot()
    branching, turns, shape, knots = _branching_told(rules, homes, depth)
    return turns, grown_tree(shape, branching, lambda name, word: knots[(name, word)], depth)


def _branching_told(rules, homes, depth):
    """A branching, its TURNS, the SHAPE of the answer by these and its knots: of the first dozen the one by which
    the answer is not too great to be told, so that it can be compared with what LOOPS make; else the first of all."""
    search, told = Branchings(rules, homes), []
    for size in range(2, 2 * MOST_CALLS + 2):
        for branching in search.of_size(size):
            turns = search.turns(branching, depth)
            shape, knots, too_great = _shape_by_turns(rules, turns)
            told.append((branching, turns, shape, knots))
            if not too_great:
                return told[-1]
            if len(told) == MOST_BRANCHINGS:
                return told[0]
    return told[0]


def _are_turns(rules, thing):
    """True if thing is TURNS."""
    if not isinstance(thing, tuple) or not all(_is_turn(rules, turn) for turn in thing):
        return False
    pairs = [turn[:2] for turn in thing]
    return all(one < other for one, other in zip(pairs, pairs[1:]))


def _is_turn(rules, thing):
    """True if thing can be one of TURNS."""
    if not is_tuple(thing, 3) or not is_natural(thing[0]) or not is_word(thing[1]) or not is_natural(thing[2]):
        return False
    return thing[0] < len(rules) and thing[2] < len(leaves_of(rules[thing[0]]))


def is_tree_paper(program, depth, thing):
    """True if thing is a TREE PAPER of program for depth."""
    rules = frozen(program)
    if not is_tuple(thing, 2) or not _are_turns(rules, thing[0]):
        return False
    return is_tree(_shape_by_turns(rules, thing[0])[0], depth, thing[1])


def fails(program, loops, turns):
    """True if the run of loops in the free MEANING from thing 0 does not stop with the answer of NAME 0."""
    rules = frozen(program)
    meaning = free_meaning(rules, turns)
    end = end_of(loops, meaning, 0)
    return end != ("stop", answer(rules, meaning, 0, 0))
