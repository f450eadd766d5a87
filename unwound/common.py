"""What several files need: kinds of values, tuples for lists, and an order of what hangs together."""

from heapq import heappop, heappush

from unwound.errors import NoPlace


def is_natural(thing):
    """True if thing is a number from 0; True and False are no numbers."""
    return isinstance(thing, int) and not isinstance(thing, bool) and thing >= 0


def is_tuple(thing, many):
    """True if thing is a tuple of so many."""
    return isinstance(thing, tuple) and len(thing) == many


def frozen(value):
    """value with a tuple in the place of each list, at any depth.

    It does without recursion: what functions returned may be passed in again, put together, and so
    nest deeper than Python lets functions call one another.
    """
    if not _holds_list(value):
        return value
    wholes, waiting = [], [value]
    while waiting:
        whole = waiting.pop()
        within = [part for part in whole if isinstance(part, (list, tuple))]
        wholes.append((whole, len(within)))
        waiting.extend(within[::-1])
    done = []
    for whole, many in reversed(wholes):
        if many == 0:
            done.append(tuple(whole))
        else:
            # Those within it came last, the first of them at the very end.
            items = [done.pop() if isinstance(part, (list, tuple)) else part for part in whole]
            done.append(tuple(items))
    return done[0]


def _holds_list(value):
    """True if value is a list, or there is one in it."""
    if not isinstance(value, tuple):
        return isinstance(value, list)
    waiting = [value]
    while waiting:
        whole = waiting.pop()
        for part in whole:
            if isinstance(part, tuple):
                waiting.append(part)
            elif isinstance(part, list):
                return True
    return False


def require_place(place, many):
    """Raises NoPlace(place) if place is none of the numbers below many."""
    if not 0 <= place < many:
        raise NoPlace(place)


def behind_order(nexts):
    """The places of nexts, one by one: each time, of those left that lead to none left, the least.

    nexts has, for each place, the places to which it leads, each once. What comes to a ring of
    places is left over: it never gets its turn.
    """
    users = [[] for _ in nexts]
    for place, led_to in enumerate(nexts):
        for after in led_to:
            users[after].append(place)
    lacking = [len(led_to) for led_to in nexts]
    ready = [place for place, many in enumerate(lacking) if many == 0]
    order = []
    while ready:
        place = heappop(ready)
        order.append(place)
        for user in users[place]:
            lacking[user] -= 1
            if lacking[user] == 0:
                heappush(ready, user)
    return order
