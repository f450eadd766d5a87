"""WEBS of ASKS, what is done in them, WAYS on them [9]."""

from unwound.common import is_tuple
from unwound.errors import CanNot
from unwound.meanings import asked_of, ending_order, is_ask, web_from
from unwound.terms import is_call


def _web(program, meaning, name, start):
    """For each ASK of the WEB: the list of the pairs (call, asked), behind the checks of [9]."""
    rules, sense = asked_of(program, meaning, name, start)
    return web_from(rules, sense, [(name, start)])


def _asked(web, ask):
    """The set of the ASKS for which ask asks."""
    return tuple(sorted({asked for call, asked in web[ask]}))


def _whole_order(web):
    """The ASKS of web in the order of web_order."""
    order = ending_order(web)
    if len(order) < len(web):
        raise CanNot()
    return order


def web_of(program, meaning, name, start):
    """The WEB of the ASK (name, start)."""
    web = _web(program, meaning, name, start)
    return tuple([(ask, _asked(web, ask)) for ask in sorted(web)])


def asks_unlike(program, meaning, name, start):
    """How many ASKS the WEB has."""
    return len(_web(program, meaning, name, start))


def asks_done(program, meaning, name, start):
    """How many ASKS are done in all if each asks anew by each call of its leaf."""
    web, done = _web(program, meaning, name, start), {}
    for ask in _whole_order(web):
        done[ask] = 1 + sum([done[asked] for call, asked in web[ask]])
    return done[(name, start)]


def web_depth(program, meaning, name, start):
    """The greatest number of ASKS one behind another, each asking for the next one."""
    web, depths = _web(program, meaning, name, start), {}
    for ask in _whole_order(web):
        depths[ask] = 1 + max([depths[asked] for call, asked in web[ask]], default=0)
    return depths[(name, start)]


def web_order(program, meaning, name, start):
    """The tuple of all ASKS of the WEB, each behind all for which it asks."""
    return tuple(_whole_order(_web(program, meaning, name, start)))


def is_web_order(program, meaning, name, start, thing):
    """True if thing is a tuple of all ASKS of the WEB, each once, each behind all for which it asks."""
    web = _web(program, meaning, name, start)
    if not is_tuple(thing, len(web)) or not all(is_ask(ask) and ask in web for ask in thing):
        return False
    places = {ask: place for place, ask in enumerate(thing)}
    if len(places) < len(web):
        return False
    return all(places[asked] < places[ask] for ask in web for call, asked in web[ask])


def is_web_tree(program, meaning, name, start):
    """True if to each ASK of the WEB there is just one WAY."""
    ways = _first_ways(_web(program, meaning, name, start), (name, start))
    return all(len(ways[ask]) == 1 for ask in ways)


def _first_ways(web, first):
    """For each ASK of web: the list of its first two WAYS from first, or of the one that it has.

    The shorter one is first, of those of one length the least. Of a WAY that has two ahead of it
    nothing that goes on from it is among the first two: so it is not gone on from.
    """
    ways, waiting = {ask: [] for ask in web}, [((), first)]
    while waiting:
        later = []
        for way, ask in waiting:
            if len(ways[ask]) < 2:
                ways[ask].append(way)
                later.extend([(way + (call,), asked) for call, asked in web[ask]])
        waiting = later
    return ways


def two_ways(program, meaning, name, start):
    """The pair of two unlike WAYS to one ASK with the fewest calls together, of these the least."""
    ways = _first_ways(_web(program, meaning, name, start), (name, start))
    pairs = [tuple(sorted(ways[ask])) for ask in ways if len(ways[ask]) == 2]
    if not pairs:
        raise CanNot()
    fewest = min([len(one) + len(other) for one, other in pairs])
    return min([pair for pair in pairs if len(pair[0]) + len(pair[1]) == fewest])


def is_two_ways(program, meaning, name, start, thing):
    """True if thing is a pair of two unlike WAYS to one ASK."""
    web = _web(program, meaning, name, start)
    if not is_tuple(thing, 2):
        return False
    ends = [_end_of_way(web, (name, start), way) for way in thing]
    return None not in ends and ends[0] == ends[1] and thing[0] != thing[1]


def _end_of_way(web, first, thing):
    """The ASK to which thing leads from first; None if it is no WAY."""
    if not isinstance(thing, tuple):
        return None
    ask = first
    for call in thing:
        if not is_call(call):
            return None
        asked = dict(web[ask]).get(call)
        if asked is None:
            return None
        ask = asked
    return ask
