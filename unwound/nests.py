"""Nests of COMPONENTS, LOOPS for whole PROGRAMS, and slips of LOOPS [15]."""

from unwound.common import frozen, is_natural, is_tuple
from unwound.errors import CanNot, TooMuch, Unfit
from unwound.loops import end_of, is_for_loops
from unwound.meanings import answer, is_for, is_meaning
from unwound.programs import called, components, homes_of, kind_in, own_table, reached
from unwound.routines import loops_for
from unwound.rowloops import MOST_SPAN, span_of
from unwound.rows import can_loop, wide_reached


def nest_of(program):
    """The tuple of the COMPONENTS that 0 comes to, each behind all others that its NAMES call."""
    rules = frozen(program)
    names = reached(rules)
    return tuple([home for home in components(rules) if home[0] in names])


def nest_depth(program):
    """The greatest number of COMPONENTS, none of them still, each of which calls the next one at any remove."""
    rules = frozen(program)
    homes, table, depths = homes_of(rules), own_table(rules), {}
    for home in nest_of(rules):
        below = [depths[homes[other]] for name in home for other in called(rules, name) if other not in home]
        depths[home] = max(below, default=0) + (0 if kind_in(table, home) == "still" else 1)
    return depths[homes[0]]


def loops_of(program):
    """LOOPS that do program."""
    rules = frozen(program)
    if not can_loop(rules):
        raise CanNot()
    table = own_table(rules)
    if any([span_of(table, home) > MOST_SPAN for home in wide_reached(rules, table)]):
        raise TooMuch()
    return loops_for(rules)


def _are_fitting(rules, own, sense):
    """True if the MEANING sense is for the PROGRAM rules and for the LOOPS own."""
    return is_for(sense, rules) and is_for_loops(sense, own)


def _slips_at(rules, own, sense, x):
    """True if the thing x is a slip."""
    try:
        value = answer(rules, sense, 0, x)
    except CanNot:
        return False
    return end_of(own, sense, x) != ("stop", value)


def slips(program, loops, meaning):
    """The set of the slips of loops."""
    rules, own, sense = frozen(program), frozen(loops), frozen(meaning)
    if not _are_fitting(rules, own, sense):
        raise Unfit()
    return tuple([x for x in range(sense[0]) if _slips_at(rules, own, sense, x)])


def is_slip(program, loops, thing):
    """True if thing is a pair (meaning, x), x being a slip."""
    rules, own = frozen(program), frozen(loops)
    if not is_tuple(thing, 2) or not is_meaning(thing[0]) or not is_natural(thing[1]):
        return False
    sense, x = thing
    return _are_fitting(rules, own, sense) and x < sense[0] and _slips_at(rules, own, sense, x)
