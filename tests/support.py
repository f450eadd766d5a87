"""Calls in all the ways that the document allows, values that are nearly something, values by chance."""

import copy
import inspect
import random

MARKS = ("", "at", "call", "make", "leaf", "ask", "thing")


def lists(value):
    """value with a list in the place of each tuple, at any depth."""
    if isinstance(value, (list, tuple)):
        return [lists(part) for part in value]
    return value


def swapped(value, odd=True):
    """value with tuples and lists in turn, level by level."""
    if isinstance(value, (list, tuple)):
        parts = [swapped(part, not odd) for part in value]
        return parts if odd else tuple(parts)
    return value


def mixed(dice, value):
    """value with lists in the place of some of its tuples, at any depth."""
    if isinstance(value, (list, tuple)):
        parts = [mixed(dice, part) for part in value]
        return parts if dice.random() < 0.5 else tuple(parts)
    return value


def deep_program(levels, kind=tuple):
    """A PROGRAM with so many "make" one within another, more than can be come to by recursion; kind is list or tuple."""
    term = kind(("call", 0, kind((0,))))
    for _ in range(levels):
        term = kind(("make", 1, kind((term,))))
    end = kind(("leaf", kind(("make", 2, kind((kind(("at", kind(()))),))))))
    return kind((kind(("ask", 0, end, kind(("leaf", term)))),))


def outcome(function, args, named):
    """("value", what is returned, as it is written) or ("error", its class, its attributes)."""
    try:
        value = function(*args, **named)
    except (LookupError, ValueError) as error:
        return "error", error.__class__, vars(error)
    return "value", value, repr(value)


def all_ways(function, args):
    """Lists of arguments (args, named), with lists for tuples, by place and by name, of one outcome."""
    names = list(inspect.signature(function).parameters)
    for number, form in enumerate((lambda value: value, lists, swapped, lambda value: swapped(value, False))):
        own = [in_form(name, arg, form) for name, arg in zip(names, args)]
        by_place = (0, len(own), 1, len(own) - 1)[number]
        yield own[:by_place], dict(reversed(list(zip(names, own))[by_place:]))


def in_form(name, arg, form):
    """arg in this form, but for what may be any value: thing, and each of things."""
    if name == "things":
        return list(arg) if isinstance(form(()), list) else arg
    return arg if name == "thing" else form(arg)


def told(function, *args):
    """What function returns, or raises, for args; it must be the same in all ways, and change nothing."""
    first = outcome(function, args, {})
    for own, named in all_ways(function, args):
        before = copy.deepcopy((own, named))
        for _ in range(2):
            again = outcome(function, own, named)
            assert again == first, (function.__name__, own, named, again, first)
        assert repr((own, named)) == repr(before), (function.__name__, "changed", before)
    if first[0] == "error":
        return function(*args)
    assert not holds_list(first[1]) or isinstance(first[1], list), first
    return first[1]


def holds_list(value):
    """True if there is a list in value."""
    return isinstance(value, list) or isinstance(value, tuple) and any(holds_list(part) for part in value)


def variants(thing):
    """Values that differ from thing at one spot, so that no number, tuple or mark of it is as stated."""
    if isinstance(thing, bool):
        yield from (int(thing), None, "True", (), [thing], -1)
    elif isinstance(thing, int):
        yield from (bool(thing % 2), -1 - thing, str(thing), None, (), (thing,), [thing])
    elif isinstance(thing, str):
        yield from (mark for mark in MARKS if mark != thing)
        yield from (0, None, True, (), (thing,), [thing], thing.upper())
    elif thing is None:
        yield from (0, False, "", ())
    else:
        yield from (list(thing), None, 0, True, "", "at", [])
        for place, part in enumerate(thing):
            for other in variants(part):
                yield thing[:place] + (other,) + thing[place + 1:]


def nested(levels, make):
    """A value that make wraps so many times."""
    value = ()
    for _ in range(levels):
        value = make(value)
    return value


def odd_things():
    """Values that are nothing that the document speaks of, a hundred levels deep among them."""
    yield from (None, True, False, 0, 1, -1, 10 ** 40, "", "at", "leaf", [], [()], ((),) * 3, (None,), (True,))
    yield from ((0, 1, 2), ("at",), ("at", (), ()), ("make", 0, ()), ("leaf",), ("ask", 0), (0, ()), (0, (), ()))
    yield nested(99, lambda value: (value,))
    yield nested(99, lambda value: [value])
    yield nested(98, lambda value: (value, value[:0]))
    yield nested(49, lambda value: ("make", 0, (value,)))
    yield ("a" * 5000, (0,) * 5000, [1] * 5000)


def chance(seed):
    """A source of numbers that is the same each time."""
    return random.Random(seed)


def word_by_chance(dice, most=3, steps=2):
    """A WORD of at most so many of the STEPS below steps."""
    return tuple(dice.randrange(steps) for _ in range(dice.randint(0, most)))


def term_by_chance(dice, names=2, levels=2, parts=3):
    """A TERM that calls NAMES below names; like parts stand in it more than once, now and then."""
    kind = dice.choice(("at", "call", "make", "make")) if levels else dice.choice(("at", "call"))
    if kind == "at":
        return "at", word_by_chance(dice, 2)
    if kind == "call":
        return "call", dice.randrange(names), word_by_chance(dice, 2)
    terms = [term_by_chance(dice, names, levels - 1, parts) for _ in range(dice.randint(1, parts))]
    if dice.random() < 0.3:
        terms[-1] = terms[0]
    return "make", dice.randrange(10), tuple(terms)


def rule_by_chance(dice, names, tests, leaves):
    """A RULE with so many leaves, taking its TESTS off the list tests."""
    if leaves == 1:
        return "leaf", term_by_chance(dice, names, dice.randint(0, 2), 2)
    left = dice.randint(1, leaves - 1)
    test = tests.pop()
    return "ask", test, rule_by_chance(dice, names, tests, left), rule_by_chance(dice, names, tests, leaves - left)


def rules_by_chance(dice, most_names=4):
    """RULES as of a PROGRAM; their calls may go in a ring without a STEP, their NAMES be without end."""
    names = dice.randint(1, most_names)
    tests = dice.sample(range(20), 20)
    return tuple(rule_by_chance(dice, names, tests, dice.randint(1, 4)) for _ in range(names))


def meaning_by_chance(dice, things, steps=2, tests=20):
    """A MEANING of so many things, for all that rules_by_chance makes."""
    return (
        things,
        tuple(tuple(dice.randrange(things) for _ in range(things)) for _ in range(steps)),
        tuple(tuple(dice.random() < 0.5 for _ in range(things)) for _ in range(tests)))
