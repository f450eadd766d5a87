"""PROGRAMS along a path, CHAINS of own calls by a MEANING, LOOPS along a path [12]."""

from unwound.common import frozen
from unwound.errors import CanNot, Unfit
from unwound.meanings import asked_of, is_ask, is_for, leaf_number, thing_at
from unwound.programs import homes_of, kind_in, kind_of, own_table, reached
from unwound.routines import loops_for


def along_path(program):
    """True if the COMPONENT of NAME 0 is a path and all other NAMES to which 0 comes are still."""
    rules = frozen(program)
    homes, table = homes_of(rules), own_table(rules)
    if kind_in(table, homes[0]) != "path":
        return False
    return all(name in homes[0] or kind_in(table, homes[name]) == "still" for name in reached(rules))


def _links(program, meaning, name, start):
    """The list of the pairs (ASK, WORD by which it leads to the next one) of the CHAIN; None if there is none.

    The last WORD is ().
    """
    table, links, ask = own_table(program), [], (name, start)
    met = set()
    while ask not in met:
        met.add(ask)
        calls = table[ask[0]][leaf_number(program[ask[0]], meaning, ask[1])]
        if not calls:
            return links + [(ask, ())]
        links.append((ask, calls[0][1]))
        ask = (calls[0][0], thing_at(meaning, ask[1], calls[0][1]))
    return None


def _chained(program, meaning, name, start):
    """The links of the CHAIN, behind the checks."""
    rules, sense = asked_of(program, meaning, name, start)
    if kind_of(rules, name) != "path":
        raise Unfit()
    links = _links(rules, sense, name, start)
    if links is None:
        raise CanNot()
    return links


def chain(program, meaning, name, start):
    """The CHAIN of name and start."""
    return tuple([ask for ask, word in _chained(program, meaning, name, start)])


def chain_word(program, meaning, name, start):
    """The WORDS of the own calls of the CHAIN, one behind another."""
    return tuple([step for ask, word in _chained(program, meaning, name, start) for step in word])


def is_chain(program, meaning, thing):
    """True if thing is the CHAIN of some NAME whose COMPONENT is a path, and some thing of meaning."""
    rules, sense = frozen(program), frozen(meaning)
    if not is_for(sense, rules):
        raise Unfit()
    if not isinstance(thing, tuple) or not thing or not all(is_ask(ask) for ask in thing):
        return False
    name, start = thing[0]
    if name >= len(rules) or start >= sense[0] or kind_of(rules, name) != "path":
        return False
    links = _links(rules, sense, name, start)
    return links is not None and thing == tuple([ask for ask, word in links])


def chain_lengths(program, meaning, name):
    """The tuple with, for each thing, how many own calls its CHAIN has; None if there is no CHAIN."""
    rules, sense = frozen(program), frozen(meaning)
    if not is_for(sense, rules):
        raise Unfit()
    if kind_of(rules, name) != "path":
        raise Unfit()
    found = [_links(rules, sense, name, x) for x in range(sense[0])]
    return tuple([None if links is None else len(links) - 1 for links in found])


def path_loops(program):
    """LOOPS that do program, which goes along a path."""
    rules = frozen(program)
    if not along_path(rules):
        raise Unfit()
    return loops_for(rules)
