"""Slow and plain ways to tell what the document says of PROGRAMS and ASKS, for the tests to compare with."""

import functools
import itertools


def leaves(rule):
    """The leaves of rule from left to right."""
    return [rule[1]] if rule[0] == "leaf" else leaves(rule[2]) + leaves(rule[3])


def tests(rule):
    """The TESTS of rule as they stand."""
    return [] if rule[0] == "leaf" else [rule[1]] + tests(rule[2]) + tests(rule[3])


def calls(term):
    """The unlike calls of a leaf."""
    if term[0] == "call":
        return {term[1:]}
    return set().union(*[calls(part) for part in term[2]]) if term[0] == "make" else set()


def words(term):
    """The WORDS in a leaf."""
    return [word for part in term[2] for word in words(part)] if term[0] == "make" else [term[-1]]


def called(rules, name):
    """The NAMES that name calls."""
    return {other for leaf in leaves(rules[name]) for other, word in calls(leaf)}


def called_at_once(rules, name):
    """The NAMES that name calls without a STEP."""
    return {other for leaf in leaves(rules[name]) for other, word in calls(leaf) if not word}


def comes_to(rules, name):
    """The NAMES that name calls, at any remove."""
    found = set()
    while True:
        more = called(rules, name).union(*[called(rules, other) for other in found])
        if more == found:
            return found
        found = more


def least_ring(rules):
    """Of the shortest rings of calls without a STEP the least; None if there is none."""
    for many in range(1, len(rules) + 1):
        for ring in itertools.permutations(range(len(rules)), many):
            if all(after in called_at_once(rules, name) for name, after in zip(ring, ring[1:] + ring[:1])):
                return ring
    return None


def endless(rules):
    """The NAMES that can not end."""
    ending = set()
    for _ in rules:
        for name, rule in enumerate(rules):
            if any({other for other, word in calls(leaf)} <= ending for leaf in leaves(rule)):
                ending.add(name)
    return tuple(name for name in range(len(rules)) if name not in ending)


@functools.lru_cache(maxsize=1000)
def component(rules, name):
    """The COMPONENT of name."""
    return tuple(sorted({name} | {
        other for other in comes_to(rules, name) if name in comes_to(rules, other)}))


def components(rules):
    """All COMPONENTS in order."""
    left, order = {component(rules, name) for name in range(len(rules))}, []
    while left:
        free = [own for own in left if not any(
            called(rules, name) & set(other) for name in own for other in left if other != own)]
        order.append(min(free))
        left.remove(min(free))
    return tuple(order)


def still_order(rules):
    """All NAMES, each behind those that it calls without a STEP."""
    left, order = set(range(len(rules))), []
    while left:
        order.append(min(name for name in left if not called_at_once(rules, name) & left))
        left.remove(order[-1])
    return tuple(order)


@functools.lru_cache(maxsize=1000)
def own_calls(rules, name):
    """For each leaf of name its own calls."""
    home = component(rules, name)
    return tuple(tuple(sorted(call for call in calls(leaf) if call[0] in home)) for leaf in leaves(rules[name]))


def kind(rules, name):
    """What the COMPONENT of name is."""
    many = [len(own) for other in component(rules, name) for own in own_calls(rules, other)]
    return "wide" if max(many) > 1 else "path" if max(many) == 1 else "still"


def plain_wide(rules, name):
    """True if the COMPONENT of name is wide and plain."""
    home = component(rules, name)
    return kind(rules, name) == "wide" and all(
        sum(1 for own in own_calls(rules, other) if own) == 1 for other in home)


def reached(rules):
    """The NAMES to which 0 comes."""
    return tuple(sorted({0} | comes_to(rules, 0)))


def led(meaning, x, word):
    """The thing x . word."""
    for step in word:
        x = meaning[1][step][x]
    return x


def leaf_number(rule, meaning, x):
    """The number of the leaf to which rule comes by the TESTS of x."""
    if rule[0] == "leaf":
        return 0
    if meaning[2][rule[1]][x]:
        return leaf_number(rule[2], meaning, x)
    return len(leaves(rule[2])) + leaf_number(rule[3], meaning, x)


def leaf_of(rules, meaning, ask):
    """The leaf of ask."""
    return leaves(rules[ask[0]])[leaf_number(rules[ask[0]], meaning, ask[1])]


def calls_out(rules, meaning, ask):
    """The pairs (call, asked) of ask, calls ascending."""
    return [(call, (call[0], led(meaning, ask[1], call[1]))) for call in sorted(calls(leaf_of(rules, meaning, ask)))]


def asked(rules, meaning, ask):
    """The ASKS for which ask asks."""
    return {other for call, other in calls_out(rules, meaning, ask)}


def asks_from(rules, meaning, ask):
    """All ASKS that can be come to from ask."""
    found = {ask}
    while True:
        more = found.union(*[asked(rules, meaning, own) for own in found])
        if more == found:
            return found
        found = more


def ends(rules, meaning, ask):
    """True if no row of ASKS goes on from ask for ever."""
    left = asks_from(rules, meaning, ask)
    while True:
        on = {own for own in left if asked(rules, meaning, own) & left}
        if on == left:
            return ask not in left
        left = on


def value(rules, meaning, ask):
    """The answer of ask, which ends."""
    return value_of(rules, meaning, leaf_of(rules, meaning, ask), ask[1])


def value_of(rules, meaning, term, x):
    """The VALUE that term has at x."""
    if term[0] == "make":
        return "make", term[1], tuple(value_of(rules, meaning, part, x) for part in term[2])
    there = led(meaning, x, term[-1])
    return ("thing", there) if term[0] == "at" else value(rules, meaning, (term[1], there))


def parts(rules, meaning, term, x):
    """How many parts the VALUE has that term has at x."""
    if term[0] == "make":
        return 1 + sum(parts(rules, meaning, part, x) for part in term[2])
    if term[0] == "at":
        return 1
    ask = (term[1], led(meaning, x, term[2]))
    return parts(rules, meaning, leaf_of(rules, meaning, ask), ask[1])
