"""MEANINGS of STEPS and TESTS, ASKS by them, RINGS and answers [8]."""

from unwound.common import behind_order, frozen, is_natural, is_tuple, require_place
from unwound.errors import CanNot, TooMuch, Unfit
from unwound.programs import leaf_by, leaves_of, tests_of
from unwound.terms import calls_in, folded, making, words_in

MOST_PARTS = 2000
MOST_MAKINGS_WITHIN = 45


def is_meaning(thing):
    """True if thing is a MEANING."""
    if not is_tuple(thing, 3) or not is_natural(thing[0]) or thing[0] == 0:
        return False
    many, steps, tests = thing
    if not isinstance(steps, tuple) or not isinstance(tests, tuple):
        return False
    if not all(is_tuple(table, many) for table in steps + tests):
        return False
    if not all(is_natural(x) and x < many for table in steps for x in table):
        return False
    return all(isinstance(held, bool) for table in tests for held in table)


def is_value(thing):
    """True if thing is a VALUE."""
    waiting = [thing]
    while waiting:
        part = waiting.pop()
        if is_tuple(part, 3) and part[0] == "make" and is_natural(part[1]):
            if not isinstance(part[2], tuple) or not part[2]:
                return False
            waiting.extend(part[2])
        elif not is_tuple(part, 2) or part[0] != "thing" or not is_natural(part[1]):
            return False
    return True


def is_for(meaning, program):
    """True if meaning has a table for each STEP and each TEST of program."""
    sense, rules = frozen(meaning), frozen(program)
    leaves = [leaf for rule in rules for leaf in leaves_of(rule)]
    steps = [step for leaf in leaves for word in words_in(leaf) for step in word]
    tests = [test for rule in rules for test in tests_of(rule)]
    return max(steps, default=-1) < len(sense[1]) and max(tests, default=-1) < len(sense[2])


def asked_of(program, meaning, name, start):
    """The pair (program, meaning), with tuples for lists, if there is an ASK (name, start) of theirs."""
    rules, sense = frozen(program), frozen(meaning)
    if not is_for(sense, rules):
        raise Unfit()
    require_place(name, len(rules))
    require_place(start, sense[0])
    return rules, sense


def led_thing(meaning, start, word):
    """The thing start . word."""
    sense, steps = frozen(meaning), frozen(word)
    if not all(step < len(sense[1]) for step in steps):
        raise Unfit()
    require_place(start, sense[0])
    return thing_at(sense, start, steps)


def thing_at(meaning, start, word):
    """The thing start . word."""
    x = start
    for step in word:
        x = meaning[1][step][x]
    return x


def leaf_at(program, meaning, name, start):
    """The number of the leaf to which the ASK (name, start) comes."""
    rules, sense = asked_of(program, meaning, name, start)
    return leaf_number(rules[name], sense, start)


def leaf_number(rule, meaning, x):
    """The number of the leaf to which rule comes by the TESTS of the thing x."""
    return leaf_by(rule, [test for test in tests_of(rule) if meaning[2][test][x]])


def leaf_of(program, meaning, ask):
    """The leaf of ask."""
    name, x = ask
    return leaves_of(program[name])[leaf_number(program[name], meaning, x)]


def asks_at(program, meaning, name, start):
    """The set of the ASKS for which the ASK (name, start) asks."""
    rules, sense = asked_of(program, meaning, name, start)
    return tuple(sorted({asked for call, asked in _calls_out(rules, sense, (name, start))}))


def _calls_out(program, meaning, ask):
    """The list of the pairs (call, asked): the calls of the leaf of ask, the ASKS to which they lead."""
    calls = calls_in(leaf_of(program, meaning, ask))
    return [(call, (call[0], thing_at(meaning, ask[1], call[1]))) for call in calls]


def web_from(program, meaning, asks):
    """For each ASK that can be come to from asks: the list of its pairs (call, asked), calls ascending."""
    web, waiting = {}, list(asks)
    while waiting:
        ask = waiting.pop()
        if ask not in web:
            web[ask] = _calls_out(program, meaning, ask)
            waiting.extend([asked for call, asked in web[ask]])
    return web


def ending_order(web):
    """The ASKS of web that end, one by one: each time, of those left that ask for none left, the least."""
    asks = sorted(web)
    places = {ask: place for place, ask in enumerate(asks)}
    nexts = [sorted({places[asked] for call, asked in web[ask]}) for ask in asks]
    return [asks[place] for place in behind_order(nexts)]


def asks_from(program, meaning, name, start):
    """The set of all ASKS that can be come to from the ASK (name, start), itself too."""
    rules, sense = asked_of(program, meaning, name, start)
    return tuple(sorted(web_from(rules, sense, [(name, start)])))


def ring_from(program, meaning, name, start):
    """A RING that can be come to from the ASK (name, start); None if it ends."""
    rules, sense = asked_of(program, meaning, name, start)
    web = web_from(rules, sense, [(name, start)])
    ending = {ask: True for ask in ending_order(web)}
    if (name, start) in ending:
        return None
    row, places, ask = [], {}, (name, start)
    while ask not in places:
        places[ask] = len(row)
        row.append(ask)
        # An ASK that does not end asks for one that does not.
        ask = min([asked for call, asked in web[ask] if asked not in ending])
    return tuple(row[places[ask]:])


def is_ring(program, meaning, name, start, thing):
    """True if thing is a RING that can be come to from the ASK (name, start)."""
    rules, sense = asked_of(program, meaning, name, start)
    web = web_from(rules, sense, [(name, start)])
    if not isinstance(thing, tuple) or not thing:
        return False
    if not all(is_ask(ask) and ask in web for ask in thing) or len(set(thing)) < len(thing):
        return False
    for ask, after in zip(thing, thing[1:] + thing[:1]):
        if after not in [asked for call, asked in web[ask]]:
            return False
    return True


def is_ask(thing):
    """True if thing is a pair of numbers from 0, as an ASK is."""
    return is_tuple(thing, 2) and is_natural(thing[0]) and is_natural(thing[1])


def _told(program, meaning, asks, of_thing, of_make):
    """For each ASK that ends and can be come to from asks: what its answer comes to if each
    ("thing", x) comes to of_thing(x), and each making to of_make(maker, values)."""
    told = {}
    for ask in ending_order(web_from(program, meaning, asks)):
        told[ask] = _told_at(program, meaning, ask, told, of_thing, of_make)
    return told


def _told_at(program, meaning, ask, told, of_thing, of_make):
    """What the answer of ask comes to, told having those of all for which it asks."""
    def of_leaf(part):
        x = thing_at(meaning, ask[1], part[-1])
        return of_thing(x) if part[0] == "at" else told[(part[1], x)]
    return folded(leaf_of(program, meaning, ask), of_leaf, of_make)


def told_of(program, meaning, ask, of_thing, of_make):
    """What the answer of ask comes to, likewise."""
    told = _told(program, meaning, [ask], of_thing, of_make)
    if ask not in told:
        raise CanNot()
    return told[ask]


def answer(program, meaning, name, start):
    """The answer of the ASK (name, start), a VALUE."""
    rules, sense = asked_of(program, meaning, name, start)
    ask = (name, start)
    parts = _parts_told(rules, sense, ask)
    within = told_of(rules, sense, ask, lambda x: 0, lambda maker, depths: 1 + max(depths))
    if parts > MOST_PARTS or within > MOST_MAKINGS_WITHIN:
        raise TooMuch()
    return told_of(rules, sense, ask, lambda x: ("thing", x), making)


def answer_parts(program, meaning, name, start):
    """How many parts the answer of the ASK (name, start) has, however many."""
    rules, sense = asked_of(program, meaning, name, start)
    return _parts_told(rules, sense, (name, start))


def _parts_told(program, meaning, ask):
    """How many parts the answer of ask has."""
    return told_of(program, meaning, ask, lambda x: 1, lambda maker, parts: 1 + sum(parts))


def parted_things(program, other, meaning):
    """The set of the things of which NAME 0 of just one of the two has an answer, or both unlike ones."""
    rules, others, sense = frozen(program), frozen(other), frozen(meaning)
    if not is_for(sense, rules) or not is_for(sense, others):
        raise Unfit()
    asks = [(0, x) for x in range(sense[0])]
    numbers = {}
    one, two = numbered(rules, sense, asks, numbers), numbered(others, sense, asks, numbers)
    return tuple([ask[1] for ask in asks if one.get(ask) != two.get(ask)])


def numbered(program, meaning, asks, numbers):
    """For each ASK that ends and can be come to from asks: the number that its answer has in numbers.

    Like VALUES have one number, so answers that are too great to be written are told apart.
    """
    return _told(
        program, meaning, asks,
        lambda x: numbers.setdefault(("thing", x), len(numbers)),
        lambda maker, parts: numbers.setdefault((maker, tuple(parts)), len(numbers)))
