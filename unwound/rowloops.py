"""PROGRAMS along one row, and LOOPS for them [14]."""

from unwound.common import frozen
from unwound.errors import TooMuch, Unfit
from unwound.programs import homes_of, leaves_of, own_table, reached
from unwound.routines import row_loops_for
from unwound.rows import has_rows
from unwound.terms import parts_in_order

MOST_SPAN = 12


def along_row(program):
    """True if program goes along one row."""
    rules = frozen(program)
    home, table = homes_of(rules)[0], own_table(rules)
    if reached(rules) != home or not all(len([calls for calls in table[name] if calls]) == 1 for name in home):
        return False
    return has_rows(table, home)


def _along(program):
    """program, with tuples for lists, if it goes along one row."""
    rules = frozen(program)
    if not along_row(rules):
        raise Unfit()
    return rules


def most_steps(table, home):
    """The most STEPS in the WORD of an own call of the COMPONENT home; table has the own calls."""
    return max([len(word) for name in home for calls in table[name] for called, word in calls])


def span_of(table, home):
    """How many NAMES the COMPONENT home has, times 1 more than most_steps."""
    return len(home) * (1 + most_steps(table, home))


def row_reach(program):
    """The most STEPS in the WORD of a call."""
    rules = _along(program)
    return most_steps(own_table(rules), reached(rules))


def row_span(program):
    """How many NAMES there are, times 1 more than the reach."""
    rules = _along(program)
    return span_of(own_table(rules), reached(rules))


def row_loops(program):
    """LOOPS that do program."""
    rules = _along(program)
    if row_span(rules) > MOST_SPAN:
        raise TooMuch()
    return row_loops_for(rules)


def row_cells(program):
    """How many CELLS row_loops has at most."""
    rules = _along(program)
    leaves = [leaf for name in reached(rules) for leaf in leaves_of(rules[name])]
    return row_span(rules) + 4 + max([len(parts_in_order(leaf)) for leaf in leaves])


def row_flags(program):
    """How many FLAGS row_loops has at most."""
    return 3 * row_span(program) + 1
