"""Rows of calls: WALKS of own calls, ROWS to which they keep, FORKS that keep to none [7]."""

from math import gcd

from unwound.common import frozen, is_natural, is_tuple, require_place
from unwound.errors import CanNot, Unfit
from unwound.programs import homes_of, is_plain_in, kind_in, own_table, reached
from unwound.terms import is_call
from unwound.words import common_root, commute, first_apart, is_piece, is_word


def walk_word(walk):
    """The WORD of walk: those of its calls, one behind another."""
    return tuple([step for name, word in frozen(walk) for step in word])


def is_closed_walk(program, name, thing):
    """True if thing is a closed WALK of name."""
    rules = frozen(program)
    require_place(name, len(rules))
    if not isinstance(thing, tuple) or not thing:
        return False
    table = own_table(rules)
    at = name
    for call in thing:
        if not is_call(call) or call not in _united(table[at]):
            return False
        at = call[0]
    return at == name


def _united(leaves):
    """The list, ascending, of the own calls of all leaves of a NAME."""
    return sorted({call for calls in leaves for call in calls})


def rows_of(program, name):
    """The ROWS with the shortest word in which the least of names has place 0."""
    owns = _owns(frozen(program), name)
    word = _common_word(owns)
    out = _walks_out(owns, min(owns))
    return tuple(owns), word, tuple([len(walk_word(out[other])) % len(word) for other in owns])


def _owns(rules, name):
    """For each NAME, ascending, of the COMPONENT of name: the list of its own calls."""
    require_place(name, len(rules))
    home, table = homes_of(rules)[name], own_table(rules)
    if kind_in(table, home) == "still":
        raise Unfit()
    return _owns_in(table, home)


def _owns_in(table, home):
    """The same, for the COMPONENT home."""
    return {name: _united(table[name]) for name in home}


def _common_word(owns):
    """The primitive WORD of which the WORDS of all closed WALKS of the least NAME are powers."""
    return common_root([walk_word(walk) for walk in _round_walks(owns)])


def _walks_out(owns, first):
    """For each NAME of owns: a tuple of calls, as few as can be, that leads to it from first."""
    walks, waiting = {first: ()}, [first]
    while waiting:
        later = []
        for name in waiting:
            for call in owns[name]:
                if call[0] not in walks:
                    walks[call[0]] = walks[name] + (call,)
                    later.append(call[0])
        waiting = later
    return walks


def _round_walks(owns):
    """The list of closed WALKS of the least NAME through each NAME and each own call.

    They come to the least NAME at their ends alone, as the WALKS of which they are made are shortest.
    If their WORDS are powers of one WORD, those of all closed WALKS of this NAME are: each of these
    is what one comes to if one goes along the WALKS through its calls, but back again along those
    through the NAMES between them.
    """
    least = min(owns)
    out = _walks_out(owns, least)
    home = {name: _walks_out(owns, name)[least] for name in owns}
    through_names = [out[name] + home[name] for name in owns]
    through_calls = [out[name] + (call,) + home[call[0]] for name in owns for call in owns[name]]
    return [walk for walk in through_names + through_calls if walk]


def is_rows(program, thing):
    """True if thing is ROWS."""
    rules = frozen(program)
    if not is_tuple(thing, 3) or not all(isinstance(part, tuple) for part in thing):
        return False
    names, word, places = thing
    if not all(is_natural(name) for name in names) or not is_word(word) or not word:
        return False
    if not names or names[0] >= len(rules) or names != homes_of(rules)[names[0]]:
        return False
    if len(places) != len(names) or not all(is_natural(place) and place < len(word) for place in places):
        return False
    table = own_table(rules)
    return kind_in(table, names) != "still" and _keep_to(_owns_in(table, names), word, places)


def _keep_to(owns, word, places):
    """True if the own calls of the NAMES of owns lead along word word word .. as their places tell."""
    place_of = {name: place for name, place in zip(owns, places)}
    for name in owns:
        for after, own in owns[name]:
            if not is_piece(word, place_of[name], own):
                return False
            if (place_of[name] + len(own)) % len(word) != place_of[after]:
                return False
    return True


def fork_of(program, name):
    """A FORK of a NAME of the COMPONENT of name."""
    owns = _owns(frozen(program), name)
    walks = _round_walks(owns)
    for other in walks:
        if not commute(walk_word(walks[0]), walk_word(other)):
            return _forked(min(owns), walks[0], other)
    raise CanNot()


def _forked(near, one, other):
    """A FORK from two closed WALKS of near whose WORDS do not commute.

    They come to near at their ends alone, so neither is the beginning of the other. The calls by which
    both begin are put behind the rest instead: that turns both WORDS alike.
    """
    apart = first_apart(one, other)
    both = one[:apart]
    if both:
        near = both[-1][0]
    return near, one[apart:] + both, other[apart:] + both


def is_fork(program, thing):
    """True if thing is a FORK."""
    rules = frozen(program)
    if not is_tuple(thing, 3) or not is_natural(thing[0]) or thing[0] >= len(rules):
        return False
    near, one, other = thing
    if not is_closed_walk(rules, near, one) or not is_closed_walk(rules, near, other):
        return False
    return one[0] != other[0] and not commute(walk_word(one), walk_word(other))


def stride(program, name):
    """The greatest number that divides the lengths of the WORDS of all closed WALKS of name."""
    most = 0
    for walk in _round_walks(_owns(frozen(program), name)):
        most = gcd(most, len(walk_word(walk)))
    return most


def wide_reached(rules, table):
    """The list, ascending, of the wide COMPONENTS that 0 comes to; table has the own calls."""
    homes = homes_of(rules)
    return sorted({homes[name] for name in reached(rules) if kind_in(table, homes[name]) == "wide"})


def barred(program):
    """The list, ascending, of the wide COMPONENTS that 0 comes to and that have no ROWS."""
    rules = frozen(program)
    table = own_table(rules)
    return [home for home in wide_reached(rules, table) if not has_rows(table, home)]


def barred_plain(rules):
    """The same, for a PROGRAM whose wide COMPONENTS that 0 comes to are plain."""
    table = own_table(rules)
    homes = wide_reached(rules, table)
    if not all(is_plain_in(table, home) for home in homes):
        raise Unfit()
    return [home for home in homes if not has_rows(table, home)]


def has_rows(table, home):
    """True if the COMPONENT home, which is not still, has ROWS; table has the own calls."""
    try:
        _common_word(_owns_in(table, home))
    except CanNot:
        return False
    return True


def can_loop(program):
    """True if some LOOPS do program."""
    return not barred_plain(frozen(program))
