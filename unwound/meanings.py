"""MEANINGS of STEPS and TESTS, ASKS by them, RINGS and answers [8]."""

from unwound.asking import Asking, told_by
from unwound.common import behind_order, frozen, is_natural, is_tuple, require_place
from unwound.errors import CanNot, TooMuch, Unfit
from unwound.programs import leaves_in, tables_used
from unwound.terms import calls_in, making

MOST_PARTS = 2000
MOST_MAKINGS_WITHIN = 45


def is_meaning(thing):
    """True if thing is a MEANING."""
    if not is_tuple(thing, 3) or not is_natural(thing[0]) or thing[0] == 0:
        return False
    many, steps, tests = thing
    if not isinstance(steps, tuple) or not isinstance(tests, tuple):
        return False
    if not all(is_tuple(table, many) for table in steps + tests):
        return False
    if not all([_is_table_of_things(table, many) for table in steps]):
        return False
    return not [held for table in tests for held in table if not isinstance(held, bool)]


def _is_table_of_things(table, many):
    """True if table, which is not (), tells things below many alone."""
    if [x for x in table if not isinstance(x, int) or isinstance(x, bool)]:
        return False
    return min(table) >= 0 and max(table) < many


def is_value(thing):
    """True if thing is a VALUE."""
    waiting = [thing]
    while waiting:
        part = waiting.pop()
        if not isinstance(part, tuple) or len(part) < 2 or not is_natural(part[1]):
            return False
        if len(part) == 3 and part[0] == "make":
            if not isinstance(part[2], tuple) or not part[2]:
                return False
            waiting.extend(part[2])
        elif len(part) != 2 or part[0] != "thing":
            return False
    return True


def is_for(meaning, program):
    """True if meaning has a table for each STEP and each TEST of program."""
    steps, tests = tables_used(program)
    return steps <= len(meaning[1]) and tests <= len(meaning[2])


def require_ask(program, meaning, name, start):
    """Raises an error if there is no ASK (name, start) of the two."""
    if not is_for(meaning, program):
        raise Unfit()
    require_place(name, len(program))
    require_place(start, meaning[0])


def asked_of(program, meaning, name, start):
    """The pair (program, meaning), with tuples for lists, if there is an ASK (name, start) of theirs."""
    require_ask(program, meaning, name, start)
    return frozen(program), frozen(meaning)


def led_thing(meaning, start, word):
    """The thing start . word."""
    if not all([step < len(meaning[1]) for step in word]):
        raise Unfit()
    require_place(start, meaning[0])
    return thing_at(meaning, start, word)


def thing_at(meaning, start, word):
    """The thing start . word."""
    x = start
    for step in word:
        x = meaning[1][step][x]
    return x


def leaf_at(program, meaning, name, start):
    """The number of the leaf to which the ASK (name, start) comes."""
    require_ask(program, meaning, name, start)
    return leaf_number(program[name], meaning, start)


def leaf_number(rule, meaning, x):
    """The number of the leaf to which rule comes by the TESTS of the thing x."""
    choice, number = rule, 0
    while choice[0] == "ask":
        if meaning[2][choice[1]][x]:
            choice = choice[2]
        else:
            number += len(leaves_in(choice[2]))
            choice = choice[3]
    return number


def leaf_of(program, meaning, ask):
    """The leaf of ask."""
    choice = program[ask[0]]
    while choice[0] == "ask":
        choice = choice[2] if meaning[2][choice[1]][ask[1]] else choice[3]
    return choice[1]


def asks_at(program, meaning, name, start):
    """The set of the ASKS for which the ASK (name, start) asks."""
    require_ask(program, meaning, name, start)
    return tuple(sorted({asked for call, asked in _calls_out(program, meaning, (name, start))}))


def _calls_out(program, meaning, ask):
    """The list of the pairs (call, asked): the calls of the leaf of ask, the ASKS to which they lead."""
    calls = calls_in(leaf_of(program, meaning, ask))
    return [(call, (call[0], thing_at(meaning, ask[1], call[1]))) for call in calls]


def web_from(program, meaning, asks):
    """For each ASK that can be come to from asks: the list of its pairs (call, asked), calls ascending."""
    web, waiting = {}, list(asks)
    while waiting:
        ask = waiting.pop()
        if ask not in web:
            web[ask] = _calls_out(program, meaning, ask)
            waiting.extend([asked for call, asked in web[ask]])
    return web


def ending_order(web):
    """The ASKS of web that end, one by one: each time, of those left that ask for none left, the least."""
    asks = sorted(web)
    places = {ask: place for place, ask in enumerate(asks)}
    nexts = [sorted({places[asked] for call, asked in web[ask]}) for ask in asks]
    return [asks[place] for place in behind_order(nexts)]


def asks_from(program, meaning, name, start):
    """The set of all ASKS that can be come to from the ASK (name, start), itself too."""
    require_ask(program, meaning, name, start)
    return tuple(sorted(Asking(program, meaning).asks_from((name, start))))


def ring_from(program, meaning, name, start):
    """A RING that can be come to from the ASK (name, start); None if it ends."""
    require_ask(program, meaning, name, start)
    asking, ask = Asking(program, meaning), (name, start)
    ending = asking.ending([ask])
    if ask in ending:
        return None
    row, places = [], {}
    while ask not in places:
        places[ask] = len(row)
        row.append(ask)
        # An ASK that does not end asks for one that does not.
        ask = min([asked for asked in asking.asked_by(ask) if asked not in ending])
    return tuple(row[places[ask]:])


def is_ring(program, meaning, name, start, thing):
    """True if thing is a RING that can be come to from the ASK (name, start)."""
    require_ask(program, meaning, name, start)
    if not isinstance(thing, tuple) or not thing:
        return False
    if not all([is_ask(ask) for ask in thing]) or len(set(thing)) < len(thing):
        return False
    asking = Asking(program, meaning)
    come_to = asking.asks_from((name, start))
    for ask, after in zip(thing, thing[1:] + thing[:1]):
        if ask not in come_to or after not in asking.asked_by(ask):
            return False
    return True


def is_ask(thing):
    """True if thing is a pair of numbers from 0, as an ASK is."""
    return is_tuple(thing, 2) and is_natural(thing[0]) and is_natural(thing[1])


def _ending_with(program, meaning, ask):
    """What ending of Asking tells of all ASKS that can be come to from ask; CanNot() if ask does not end."""
    ending = Asking(program, meaning).ending([ask])
    if ask not in ending:
        raise CanNot()
    return ending


def answer(program, meaning, name, start):
    """The answer of the ASK (name, start), a VALUE."""
    require_ask(program, meaning, name, start)
    ask = (name, start)
    ending = _ending_with(program, meaning, ask)
    within = told_by(ending, lambda x: 0, lambda maker, depths: 1 + max(depths))
    if _parts_told(ending)[ask] > MOST_PARTS or within[ask] > MOST_MAKINGS_WITHIN:
        raise TooMuch()
    return told_by(ending, lambda x: ("thing", x), making)[ask]


def answer_parts(program, meaning, name, start):
    """How many parts the answer of the ASK (name, start) has, however many."""
    require_ask(program, meaning, name, start)
    return _parts_told(_ending_with(program, meaning, (name, start)))[(name, start)]


def _parts_told(ending):
    """For each ASK of ending: how many parts its answer has."""
    return told_by(ending, lambda x: 1, lambda maker, parts: 1 + sum(parts))


def parted_things(program, other, meaning):
    """The set of the things of which NAME 0 of just one of the two has an answer, or both unlike ones."""
    if not is_for(meaning, program) or not is_for(meaning, other):
        raise Unfit()
    return tuple(parted_of(program, other, meaning, list(range(meaning[0]))))


def parted_of(program, other, meaning, things):
    """The list of those of things that are parted by the two."""
    asks, numbers = [(0, x) for x in things], {}
    one, two = numbered(program, meaning, asks, numbers), numbered(other, meaning, asks, numbers)
    return [ask[1] for ask in asks if one.get(ask) != two.get(ask)]


def numbered(program, meaning, asks, numbers):
    """For each ASK that ends and can be come to from asks: the number that its answer has in numbers.

    Like VALUES have one number, so answers that are too great to be written are told apart.
    """
    return told_by(
        Asking(program, meaning).ending(asks),
        lambda x: numbers.setdefault(("thing", x), len(numbers)),
        lambda maker, parts: numbers.setdefault((maker, tuple(parts)), len(numbers)))
