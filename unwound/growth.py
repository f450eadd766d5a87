"""Growth: how many unlike calls can be, told by the LOTS of WORDS, TWO RINGS and RING ROWS [17]."""

from unwound.common import frozen, is_tuple
from unwound.errors import CanNot, TooMuch
from unwound.lots import Lots, Rings, calls_of_names, lot_behind, lot_of_word, steps_on
from unwound.programs import still_order
from unwound.series import sum_far
from unwound.words import commute, is_word

MOST_LOTS = 400
MOST_STEPS = 300


def lot_of(program, word):
    """The LOT of word."""
    return lot_of_word(calls_of_names(frozen(program)), frozen(word))


def _lots(rules):
    """All LOTS of a PROGRAM; TooMuch() if they are too many."""
    lots = Lots(calls_of_names(rules), MOST_LOTS)
    if lots.are_too_many():
        raise TooMuch()
    return lots


def _rings(rules):
    """The rings of all LOTS of a PROGRAM."""
    return Rings(_lots(rules))


def calls_within(program, n):
    """How many unlike calls can be whose WORDS have at most n STEPS."""
    lots = _lots(frozen(program))
    if n <= MOST_STEPS:
        return sum(lots.calls_by_length(n))
    rings = Rings(lots)
    if rings.parting_place() is not None:
        raise TooMuch()
    # The calls of each length are told by a series. Each way through the rings adds to it a power of x, no higher
    # than there are LOTS, divided by 1 - x ** length for each of its rings.
    lengths = rings.lengths()
    far = len(lots.lots) + sum(lengths)
    return sum_far(lots.calls_by_length(far), lengths, n)


def ways_within(program, n):
    """How many they are if each is counted as often as there are ways of calls to it."""
    rules = frozen(program)
    nexts = calls_of_names(rules)
    # Each NAME ahead of those that it calls without a STEP.
    order = list(reversed(still_order(rules)))
    ways = [{name: 0 for name in order} for _ in range(n + 1)]
    ways[0][0] = 1
    for size in range(n + 1):
        for caller in order:
            for called, word in nexts[caller]:
                if size + len(word) <= n:
                    ways[size + len(word)][called] += ways[size][caller]
    return sum([sum(own.values()) for own in ways])


def power_of(program):
    """How many pairs the RING ROWS with the most have."""
    return len(ring_row(program))


def ring_row(program):
    """A RING ROW with the most pairs."""
    rings = _rings(frozen(program))
    if rings.parting_place() is not None:
        raise CanNot()
    row, at = [], 0
    for place in rings.most_heads(rings.heads()):
        row.append((rings.word_between(at, place), rings.words_round(place)[0]))
        at = place
    return tuple(row)


def is_ring_row(program, thing):
    """True if thing is a RING ROW."""
    nexts = calls_of_names(frozen(program))
    if not isinstance(thing, tuple):
        return False
    lot, ahead = lot_of_word(nexts, ()), None
    for pair in thing:
        if not is_tuple(pair, 2) or not is_word(pair[0]) or not is_word(pair[1]) or not pair[1]:
            return False
        lot = lot_behind(nexts, lot, pair[0])
        if not lot or lot_behind(nexts, lot, pair[1]) != lot:
            return False
        # Each leads to the next one: so if one led back to any, it would lead back to the one ahead of it.
        if ahead is not None and _leads_to(nexts, lot, ahead):
            return False
        ahead = lot
    return True


def _leads_to(nexts, lot, other):
    """True if lot leads to the LOT other."""
    met, waiting = {lot: True}, [lot]
    while waiting:
        here = waiting.pop()
        if here == other:
            return True
        for step in steps_on(here):
            then = lot_behind(nexts, here, (step,))
            if then not in met:
                met[then] = True
                waiting.append(then)
    return False


def two_rings(program):
    """TWO RINGS."""
    rings = _rings(frozen(program))
    place = rings.parting_place()
    if place is None:
        raise CanNot()
    # Both begin by unlike STEPS, so they do not commute.
    one, other = rings.words_round(place)[:2]
    return rings.word_between(0, place), one, other


def are_two_rings(program, thing):
    """True if thing is TWO RINGS."""
    nexts = calls_of_names(frozen(program))
    if not is_tuple(thing, 3) or not all(is_word(word) for word in thing):
        return False
    word, one, other = thing
    if commute(one, other):
        return False
    lot = lot_of_word(nexts, word)
    return len(lot) > 0 and lot_behind(nexts, lot, one) == lot and lot_behind(nexts, lot, other) == lot
