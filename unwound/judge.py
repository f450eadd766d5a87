"""One judge for all PAPERS: CLAIMS, what speaks for them and against them, what they come of [22]."""

from unwound.alike import are_alike, is_marked, is_pairs, is_parting, is_split, pairs_of, split_of
from unwound.common import frozen, is_natural, is_tuple
from unwound.errors import CanNot, Unfit
from unwound.growth import are_two_rings, two_rings
from unwound.meanings import asks_at, ending_order, is_ask, is_for, is_meaning, is_ring, ring_from, web_from
from unwound.pebbles import closed_sets, is_closed, is_play, is_shape, web_cells, web_play
from unwound.programs import homes_of, is_plain_in, is_program, own_table
from unwound.rows import barred, can_loop, fork_of, is_fork, is_rows, rows_of, wide_reached
from unwound.walks import is_sides, is_spine, is_walk_bar, sides, walk_bar
from unwound.webs import web_order

SIZES = {"loops": 2, "ends": 5, "cells": 3, "doubles": 2, "alike": 3, "walk": 2}


def is_claim(thing):
    """True if thing is a CLAIM."""
    if not isinstance(thing, tuple) or not thing or not isinstance(thing[0], str):
        return False
    if SIZES.get(thing[0]) != len(thing):
        return False
    if thing[0] == "cells":
        return is_shape(thing[1]) and is_natural(thing[2]) and thing[2] > 0
    if not is_program(thing[1]):
        return False
    if thing[0] == "loops":
        return _are_plain(thing[1])
    if thing[0] == "ends":
        return _is_ask_claim(thing)
    if thing[0] == "alike":
        return is_program(thing[2]) and is_marked(thing[1]) and is_marked(thing[2])
    return thing[0] == "doubles" or is_spine(thing[1])


def _are_plain(rules):
    """True if the wide COMPONENTS that 0 comes to are plain."""
    table = own_table(rules)
    return all(is_plain_in(table, home) for home in wide_reached(rules, table))


def _is_ask_claim(thing):
    """True if thing, five values, the second a PROGRAM, tells a MEANING for it and an ASK."""
    if not is_meaning(thing[2]) or not is_for(thing[2], thing[1]) or not is_ask(thing[3:]):
        return False
    return thing[3] < len(thing[1]) and thing[4] < thing[2][0]


def _checked_claim(claim):
    """claim, with tuples for lists, if it is a CLAIM."""
    own = frozen(claim)
    if not is_claim(own):
        raise Unfit()
    return own


def _checked_claims(claims):
    """claims, with tuples for lists, if they all are CLAIMS."""
    owns = frozen(claims)
    if not all(is_claim(own) for own in owns):
        raise Unfit()
    return owns


def _homes(rules):
    """The list, ascending, of the wide COMPONENTS that 0 comes to."""
    return wide_reached(rules, own_table(rules))


def _has_two_rings(rules):
    """True if there are TWO RINGS; TooMuch() if there are too many LOTS."""
    try:
        two_rings(rules)
    except CanNot:
        return False
    return True


def _is_so(claim):
    """True if the CLAIM is so."""
    kind, *parts = claim
    if kind == "loops":
        return can_loop(*parts)
    if kind == "ends":
        return ring_from(*parts) is None
    if kind == "cells":
        return web_cells(parts[0]) <= parts[1]
    if kind == "doubles":
        return _has_two_rings(*parts)
    if kind == "alike":
        return are_alike(*parts)
    return not _has_bar(*parts)


def _has_bar(program):
    """True if the spine has a BAR."""
    try:
        walk_bar(program)
    except CanNot:
        return False
    return True


def is_so(claim):
    """True if claim is so."""
    return _is_so(_checked_claim(claim))


def paper(claim):
    """A PAPER for claim if it is so, else one against it."""
    own = _checked_claim(claim)
    return _paper_for(own) if _is_so(own) else _paper_against(own)


def _paper_for(claim):
    """A PAPER for a CLAIM that is so."""
    kind, *parts = claim
    if kind == "loops":
        return tuple([rows_of(parts[0], home[0]) for home in _homes(parts[0])])
    if kind == "ends":
        return web_order(*parts)
    if kind == "cells":
        return web_play(parts[0])
    if kind == "doubles":
        return two_rings(*parts)
    return pairs_of(*parts) if kind == "alike" else sides(*parts)


def _paper_against(claim):
    """A PAPER against a CLAIM that is not so."""
    kind, *parts = claim
    if kind == "loops":
        return fork_of(parts[0], barred(parts[0])[0][0])
    if kind == "ends":
        return ring_from(*parts)
    if kind == "cells":
        return closed_sets(*parts)
    if kind == "doubles":
        return ()
    return split_of(*parts) if kind == "alike" else walk_bar(*parts)


def _speaks_for(claim, thing):
    """True if thing is a PAPER for the CLAIM."""
    kind, *parts = claim
    if kind == "loops":
        homes = _homes(parts[0])
        return is_tuple(thing, len(homes)) and all(_are_rows_of(parts[0], home, own) for home, own in zip(homes, thing))
    if kind == "ends":
        return _is_order_to(parts, thing)
    if kind == "cells":
        return is_play(parts[0], parts[1], thing)
    if kind == "doubles":
        return are_two_rings(parts[0], thing)
    return is_pairs(parts[0], parts[1], thing) if kind == "alike" else is_sides(parts[0], thing)


def _are_rows_of(rules, home, thing):
    """True if thing is ROWS of the COMPONENT home."""
    return is_rows(rules, thing) and thing[0] == home


def _is_order_to(parts, thing):
    """True if thing is a tuple of unlike ASKS, that of parts the last, each behind all for which it asks."""
    rules, meaning, name, x = parts
    if not isinstance(thing, tuple) or not thing or thing[-1] != (name, x):
        return False
    ahead = {}
    for ask in thing:
        if not is_ask(ask) or ask[0] >= len(rules) or ask[1] >= meaning[0] or ask in ahead:
            return False
        if not all(asked in ahead for asked in asks_at(rules, meaning, ask[0], ask[1])):
            return False
        ahead[ask] = True
    return True


def _speaks_against(claim, thing):
    """True if thing is a PAPER against the CLAIM."""
    kind, *parts = claim
    if kind == "loops":
        return is_fork(parts[0], thing) and homes_of(parts[0])[thing[0]] in _homes(parts[0])
    if kind == "ends":
        return is_ring(parts[0], parts[1], parts[2], parts[3], thing)
    if kind == "cells":
        return is_closed(parts[0], parts[1], thing)
    if kind == "doubles":
        return is_tuple(thing, 0) and not _has_two_rings(parts[0])
    if kind == "alike":
        return is_split(parts[0], parts[1], thing) or is_parting(parts[0], parts[1], thing)
    return is_walk_bar(parts[0], thing)


def _look_through_lots(claims):
    """Raises TooMuch() if for some "doubles" there are too many LOTS."""
    for claim in claims:
        if claim[0] == "doubles":
            _has_two_rings(claim[1])


def is_paper_for(claim, thing):
    """True if thing is a PAPER for claim."""
    own = _checked_claim(claim)
    _look_through_lots([own])
    return _speaks_for(own, thing)


def is_paper_against(claim, thing):
    """True if thing is a PAPER against claim."""
    own = _checked_claim(claim)
    _look_through_lots([own])
    return _speaks_against(own, thing)


def verdicts(claims, things):
    """The list with, for each of claims and the value at its place in things, "for", "against" or "none"."""
    owns = _checked_claims(claims)
    if len(owns) != len(things):
        raise Unfit()
    _look_through_lots(owns)
    return [_verdict(own, thing) for own, thing in zip(owns, things)]


def _verdict(claim, thing):
    """The string that tells for what of the CLAIM thing is a PAPER."""
    if _speaks_for(claim, thing):
        return "for"
    return "against" if _speaks_against(claim, thing) else "none"


def first_false(claims):
    """The first place of claims whose CLAIM is not so, None if all are."""
    for place, own in enumerate(_checked_claims(claims)):
        if not _is_so(own):
            return place
    return None


def comes_of(claim, claims):
    """True if claim comes of claims."""
    own, others = _checked_claim(claim), _checked_claims(claims)
    of_its_kind = [other for other in others if other[0] == own[0]]
    if own[0] == "cells":
        return any(other[1] == own[1] and other[2] <= own[2] for other in of_its_kind)
    if own[0] == "alike":
        return own[2] in _alike_to(own[1], of_its_kind)
    if own[0] == "ends":
        return _ends_by(own, [other[3:] for other in of_its_kind if other[1:3] == own[1:3]])
    return own in of_its_kind


def _alike_to(program, claims):
    """The list of the PROGRAMS to which program comes along claims, each of which leads both ways."""
    found, waiting = [], [program]
    while waiting:
        here = waiting.pop()
        for _, one, other in claims:
            afters = [after for near, after in ((one, other), (other, one)) if near == here]
            for after in afters:
                if after not in found:
                    found.append(after)
                    waiting.append(after)
    return found


def _ends_by(claim, asks):
    """True if that the ASK of claim ends comes of this, that asks end."""
    _, rules, meaning, name, x = claim
    known = web_from(rules, meaning, asks)
    web = web_from(rules, meaning, [(name, x)])
    # It is enough that no RING is come to ahead of those of which it is known.
    ahead = {ask: [] if ask in known else web[ask] for ask in web}
    return (name, x) in ending_order(ahead)
