"""TERMS: things led by WORDS, calls, and what MAKERS make of them [5].

Nothing here is done by recursion: TERMS that functions returned may be put into one another.
"""

from unwound.common import frozen, is_natural, is_tuple
from unwound.words import is_word


def is_call(thing):
    """True if thing is a call, a pair (name, word)."""
    return is_tuple(thing, 2) and is_natural(thing[0]) and is_word(thing[1])


def is_term(thing):
    """True if thing is a TERM."""
    waiting = [thing]
    while waiting:
        part = waiting.pop()
        if _is_making(part):
            waiting.extend(part[2])
        elif not _is_leaf(part):
            return False
    return True


def _is_leaf(thing):
    """True if thing is a TERM without terms."""
    if is_tuple(thing, 2):
        return thing[0] == "at" and is_word(thing[1])
    return is_tuple(thing, 3) and thing[0] == "call" and is_call(thing[1:])


def _is_making(thing):
    """True if thing is a making, whatever its terms are."""
    if not is_tuple(thing, 3) or thing[0] != "make":
        return False
    return is_natural(thing[1]) and isinstance(thing[2], tuple) and len(thing[2]) > 0


def occurrences(term):
    """The list of the parts of term, each as often as it stands, from left to right behind its parts."""
    found, waiting = [], [term]
    while waiting:
        part = waiting.pop()
        found.append(part)
        if part[0] == "make":
            waiting.extend(part[2])
    found.reverse()
    return found


def folded(term, of_leaf, of_make):
    """What term comes to if each part without terms comes to of_leaf(part), and each making to
    of_make(maker, values), values being the list of what its terms come to."""
    values = []
    for part in occurrences(term):
        if part[0] == "make":
            first = len(values) - len(part[2])
            made = of_make(part[1], values[first:])
            del values[first:]
            values.append(made)
        else:
            values.append(of_leaf(part))
    return values[0]


def making(maker, terms):
    """The TERM, or the VALUE, that maker makes of terms."""
    return ("make", maker, tuple(terms))


def depth(term):
    """The greatest number of "make" that stand one within another in term."""
    return folded(term, lambda part: 0, lambda maker, depths: 1 + max(depths))


def calls_in(term):
    """The set of the calls (name, word) of term."""
    return tuple(sorted({(part[1], tuple(part[2])) for part in occurrences(term) if part[0] == "call"}))


def words_in(term):
    """The set of the WORDS that stand in term."""
    return tuple(sorted({tuple(part[-1]) for part in occurrences(term) if part[0] != "make"}))


def makers_in(term):
    """The set of the MAKERS of term."""
    return tuple(sorted({part[1] for part in occurrences(term) if part[0] == "make"}))


def parts_in_order(term):
    """The tuple of the unlike parts of term, each behind all parts of its terms."""
    return tuple([part for part, places in parts_with_places(frozen(term))])


def parts_with_places(term):
    """The list of the pairs (part, places), in the order of parts_in_order: places tell its terms there."""
    numbers, found, stack = {}, [], []
    for part in occurrences(term):
        key, places = part, ()
        if part[0] == "make":
            # The terms are told by their places: a key that nests like a TERM might nest too deep.
            first = len(stack) - len(part[2])
            places = tuple(stack[first:])
            key = ("make", part[1], places)
            del stack[first:]
        if key not in numbers:
            numbers[key] = len(found)
            found.append((part, places))
        stack.append(numbers[key])
    return found


def led(term, word):
    """The TERM in which each WORD w is word + w."""
    ahead = frozen(word)
    return folded(frozen(term), lambda part: part[:-1] + (ahead + part[-1],), making)


def filled(term, answers):
    """The TERM in which each call for which answers have a pair is the TERM of the first such pair."""
    put_in = {}
    for call, answer in frozen(answers):
        put_in.setdefault(call, answer)
    return folded(frozen(term), lambda part: put_in.get(part[1:], part), making)
