"""WORDS: tuples of STEPS, their powers, and what they are made of [4]."""

from unwound.common import frozen, is_natural, require_place
from unwound.errors import CanNot, Unfit


def is_word(thing):
    """True if thing is a WORD."""
    return isinstance(thing, tuple) and all(is_natural(step) for step in thing)


def word_power(word, many):
    """word many times."""
    return frozen(word) * many


def root_of(word):
    """The pair (root, times): the primitive WORD of which word is a power, and how often."""
    whole = frozen(word)
    if not whole:
        raise Unfit()
    size = 1
    while len(whole) % size != 0 or whole[:size] * (len(whole) // size) != whole:
        size += 1
    return whole[:size], len(whole) // size


def commute(word, other):
    """True if both orders of the two make one WORD."""
    one, two = frozen(word), frozen(other)
    return one + two == two + one


def common_root(words):
    """The primitive WORD of which all of words are powers; () if all are ()."""
    filled_ones = [word for word in frozen(words) if word]
    if not filled_ones:
        return ()
    root = root_of(filled_ones[0])[0]
    # What commutes with a primitive WORD is a power of it.
    if not all(commute(root, word) for word in filled_ones):
        raise CanNot()
    return root


def turned(word, many):
    """word with its first STEP moved to its end, many times over."""
    whole = frozen(word)
    if not whole:
        return ()
    first = many % len(whole)
    return whole[first:] + whole[:first]


def piece_of(row, start, many):
    """The WORD of the many STEPS that row row row .. has from the place start on."""
    whole = frozen(row)
    if not whole:
        raise Unfit()
    first = start % len(whole)
    times = (first + many) // len(whole) + 1
    return (whole * times)[first:first + many]


def is_piece(row, start, word):
    """True if row row row .. has word from the place start on."""
    whole = frozen(word)
    return piece_of(row, start, len(whole)) == whole


def first_apart(word, other):
    """The least place at which both have STEPS, unlike ones; None if there is none."""
    for place, (step, second) in enumerate(zip(frozen(word), frozen(other))):
        if step != second:
            return place
    return None


def row_word(words, row):
    """The WORD of the places of row, one after the other, of words."""
    made, parts = [], frozen(words)
    for place in frozen(row):
        require_place(place, len(parts))
        made.extend(parts[place])
    return tuple(made)


def row_told(words, word):
    """The row of words, a pair that do not commute, that makes word."""
    pair, whole = frozen(words), frozen(word)
    if commute(pair[0], pair[1]):
        raise Unfit()
    firsts = _first_places(pair, whole)
    if whole and 0 not in firsts:
        raise CanNot()
    row, start = [], 0
    while start < len(whole):
        row.append(firsts[start])
        start += len(pair[firsts[start]])
    return tuple(row)


def _first_places(pair, whole):
    """For each place from which on whole can be made of the pair: the first one to take there.

    Two that do not commute make no WORD in two ways, so there is never a choice.
    """
    firsts = {}
    for start in reversed(range(len(whole))):
        for place, word in enumerate(pair):
            end = start + len(word)
            if whole[start:end] == word and (end == len(whole) or end in firsts):
                firsts[start] = place
    return firsts
