"""unwound.webs [9]."""

import itertools
import unittest

from tests import plain
from tests.support import chance, meaning_by_chance, odd_things, rules_by_chance, told, variants
from unwound import webs
from unwound.errors import CanNot, NoPlace, Unfit

END = ("leaf", ("at", ()))
WALK = (("ask", 0, END, ("leaf", ("make", 1, (("at", ()), ("call", 0, (0,)))))),)
TWIN = (("ask", 0, END, ("leaf", ("make", 1, (("call", 0, (0,)), ("call", 0, (0, 0)))))),)
TWO_STEPS = (("ask", 0, END, ("leaf", ("make", 1, (("call", 0, (0,)), ("call", 0, (1,)))))),)
LINE = (3, ((1, 2, 2),), ((False, False, True),))
LOOP = (3, ((1, 0, 2),), ((False, False, True),))
FAR = (6, ((1, 2, 3, 4, 5, 5),), ((False, False, False, False, True, True),))
ONE, TWO = (0, (0,)), (0, (0, 0))


def webs_by_chance(seed, many):
    """PROGRAMS, MEANINGS for them, ASKS with a WEB of at least two ASKS, now and then of one."""
    dice, found = chance(seed), []
    while len(found) < many:
        if dice.random() < 0.2:
            found.append((TWO_STEPS, meaning_going_on(dice), (0, 0)))
            continue
        program = rules_by_chance(dice, 3)
        if plain.least_ring(program) is not None or plain.endless(program):
            continue
        meaning = meaning_by_chance(dice, dice.randint(1, 6))
        ask = (dice.randrange(len(program)), dice.randrange(meaning[0]))
        if len(plain.asks_from(program, meaning, ask)) > 1 or dice.random() < 0.1:
            found.append((program, meaning, ask))
    return found


def meaning_going_on(dice):
    """A MEANING of two STEPS, each leading to a greater thing; the last one, and maybe some others, end."""
    many = dice.randint(3, 6)
    steps = tuple(tuple(min(x + dice.randint(1, 2), many - 1) for x in range(many)) for _ in range(2))
    return many, steps, (tuple(x == many - 1 or dice.random() < 0.2 for x in range(many)),)


WEBS = webs_by_chance(90, 450)
ASKING = (
    webs.web_of, webs.asks_unlike, webs.asks_done, webs.web_depth, webs.web_order, webs.is_web_tree, webs.two_ways)


def ways_of(program, meaning, ask, most):
    """The pairs (WAY, ASK to which it leads) from ask, of at most so many calls."""
    found = now = [((), ask)]
    for _ in range(most):
        now = [(way + (call,), after) for way, at in now for call, after in plain.calls_out(program, meaning, at)]
        found = found + now
    return found


def plain_two_ways(program, meaning, ask):
    """The pair that two_ways tells, None if the WEB is a tree."""
    many = len(plain.asks_from(program, meaning, ask))
    for together in range(1, 2 * many + 1):
        by_end = {}
        for way, end in ways_of(program, meaning, ask, together):
            by_end.setdefault(end, []).append(way)
        pairs = [
            (one, other) for group in by_end.values() for one in group for other in group
            if one < other and len(one) + len(other) == together]
        if pairs:
            return min(pairs)
    return None


def done(program, meaning, ask):
    """How many ASKS are done, for an ASK that ends."""
    return 1 + sum(done(program, meaning, after) for call, after in plain.calls_out(program, meaning, ask))


def depth(program, meaning, ask):
    """The greatest number of ASKS one behind another, for an ASK that ends."""
    return 1 + max([depth(program, meaning, after) for after in plain.asked(program, meaning, ask)], default=0)


def plain_order(program, meaning, ask):
    """All ASKS, each time, of those left that ask for none left, the least."""
    left, order = plain.asks_from(program, meaning, ask), []
    while left:
        order.append(min(own for own in left if not plain.asked(program, meaning, own) & left))
        left.remove(order[-1])
    return tuple(order)


def is_order(program, meaning, ask, thing):
    """True if thing, a tuple of ASKS, is an order of the WEB."""
    if sorted(thing) != sorted(plain.asks_from(program, meaning, ask)):
        return False
    return all(plain.asked(program, meaning, own) <= set(thing[:place]) for place, own in enumerate(thing))


class WebsTest(unittest.TestCase):

    def test_web_of(self):
        for program, meaning, ask in WEBS:
            web = tuple(
                (own, tuple(sorted(plain.asked(program, meaning, own))))
                for own in sorted(plain.asks_from(program, meaning, ask)))
            self.assertEqual(told(webs.web_of, program, meaning, *ask), web)
            self.assertEqual(told(webs.asks_unlike, program, meaning, *ask), len(web))

    def test_what_ends(self):
        met = {True: 0, False: 0}
        for program, meaning, ask in WEBS:
            ends = plain.ends(program, meaning, ask)
            met[ends] += 1
            if ends:
                self.assertEqual(told(webs.asks_done, program, meaning, *ask), done(program, meaning, ask))
                self.assertEqual(told(webs.web_depth, program, meaning, *ask), depth(program, meaning, ask))
                order = told(webs.web_order, program, meaning, *ask)
                self.assertEqual(order, plain_order(program, meaning, ask))
                self.assertIs(told(webs.is_web_order, program, meaning, *ask, order), True)
            else:
                for function in (webs.asks_done, webs.web_depth, webs.web_order):
                    self.assertRaises(CanNot, told, function, program, meaning, *ask)
                asks = tuple(sorted(plain.asks_from(program, meaning, ask)))
                self.assertIs(told(webs.is_web_order, program, meaning, *ask, asks), False)
        self.assertGreater(min(met.values()), 45)

    def test_very_many_asks_done(self):
        chain = (40, (tuple(min(x + 1, 39) for x in range(40)),) * 2, ((False,) * 39 + (True,),))
        self.assertEqual(told(webs.asks_done, TWO_STEPS, chain, 0, 0), 2 ** 40 - 1)
        self.assertEqual(webs.asks_unlike(TWO_STEPS, chain, 0, 0), 40)
        self.assertEqual(told(webs.web_depth, TWO_STEPS, chain, 0, 0), 40)

    def test_the_guarantees(self):
        for program, meaning, ask in WEBS:
            tree = webs.is_web_tree(program, meaning, *ask)
            if plain.ends(program, meaning, ask):
                done_in_all, unlike = webs.asks_done(program, meaning, *ask), webs.asks_unlike(program, meaning, *ask)
                self.assertIs(done_in_all == unlike, tree)
                self.assertGreaterEqual(done_in_all, unlike)
                ways = ways_of(program, meaning, ask, webs.web_depth(program, meaning, *ask))
                self.assertEqual(len(ways), done_in_all)
            else:
                self.assertIs(tree, False)


class OrdersTest(unittest.TestCase):

    def test_orders_of_few(self):
        met = {True: 0, False: 0}
        for program, meaning, ask in WEBS:
            asks = sorted(plain.asks_from(program, meaning, ask))
            if len(asks) < 5:
                for thing in itertools.permutations(asks):
                    expected = is_order(program, meaning, ask, thing)
                    met[expected] += 1
                    self.assertIs(webs.is_web_order(program, meaning, *ask, thing), expected)
        self.assertGreater(min(met.values()), 100)

    def test_what_is_nearly_one(self):
        thing = ((0, 5), (0, 4), (0, 3), (0, 2))
        self.assertIs(told(webs.is_web_order, TWIN, FAR, 0, 2, thing), True)
        for other in variants(thing):
            self.assertIs(webs.is_web_order(TWIN, FAR, 0, 2, other), False, other)
        for other in (
                thing[:-1], thing[1:], thing + thing[:1], thing + ((0, 1),), thing[:3] + ((0, 1),), thing[::-1], (),
                ((0, 5),) + thing, ((1, 5),) + thing[1:], thing[:3] + ((0, 3),), ((0, 5, 0),) + thing[1:]):
            self.assertIs(webs.is_web_order(TWIN, FAR, 0, 2, other), False, other)
        one = (("leaf", ("at", ())),)
        self.assertIs(webs.is_web_order(one, (2, (), ()), 0, 1, ((0, 1),)), True)
        self.assertIs(webs.is_web_order(one, (2, (), ()), 0, 1, ((0, True),)), False)

    def test_other_things(self):
        for thing in odd_things():
            self.assertIs(webs.is_web_order(TWIN, FAR, 0, 0, thing), False)
            self.assertIs(webs.is_two_ways(TWIN, FAR, 0, 0, thing), False)


class WaysTest(unittest.TestCase):

    def test_two_ways(self):
        met = {True: 0, False: 0}
        for program, meaning, ask in WEBS:
            if webs.asks_unlike(program, meaning, *ask) > 6:
                continue
            expected = plain_two_ways(program, meaning, ask)
            met[expected is None] += 1
            self.assertIs(told(webs.is_web_tree, program, meaning, *ask), expected is None)
            if expected is None:
                self.assertRaises(CanNot, told, webs.two_ways, program, meaning, *ask)
            else:
                self.assertEqual(told(webs.two_ways, program, meaning, *ask), expected)
                self.assertIs(told(webs.is_two_ways, program, meaning, *ask, expected), True)
        self.assertGreater(min(met.values()), 40)

    def test_is_two_ways(self):
        met = 0
        for program, meaning, ask in WEBS[:60]:
            ways = ways_of(program, meaning, ask, 3)[:25]
            for (one, end), (other, other_end) in itertools.product(ways, ways):
                expected = one != other and end == other_end
                met += expected
                self.assertIs(webs.is_two_ways(program, meaning, *ask, (one, other)), expected)
        self.assertGreater(met, 100)

    def test_ways_that_stop_or_turn_elsewhere(self):
        for thing, expected in (
                (((TWO,), (ONE, ONE)), True), (((ONE, ONE), (TWO,)), True), (((ONE,), (ONE,)), False), (((), ()), False),
                (((ONE,), (TWO,)), False), (((ONE, TWO), (TWO, ONE)), True), (((ONE, ONE, ONE, ONE), (TWO, TWO)), True),
                (((ONE,) * 5, (TWO, TWO, ONE)), False), (((ONE,) * 6, (TWO,) * 3), False), (((TWO,), (ONE, ONE), ()), False),
                (((TWO,),), False), (((TWO,), ((0, ()),)), False), (((1, (0,)), (TWO,)), False), ((), False),
                (((TWO,), (TWO[:1], ONE)), False), ((TWO, (ONE, ONE)), False)):
            self.assertIs(told(webs.is_two_ways, TWIN, FAR, 0, 0, thing), expected, thing)

    def test_what_is_nearly_two_ways(self):
        thing = ((TWO,), (ONE, ONE))
        for other in variants(thing):
            self.assertIs(webs.is_two_ways(TWIN, FAR, 0, 0, other), False, other)

    def test_a_ring(self):
        self.assertEqual(told(webs.two_ways, WALK, LOOP, 0, 0), ((), (ONE, ONE)))
        around = (ONE,) * 2000
        self.assertIs(webs.is_two_ways(WALK, LOOP, 0, 0, (around, ())), True)
        self.assertIs(webs.is_two_ways(WALK, LOOP, 0, 0, (around + (ONE,), ())), False)
        self.assertIs(webs.is_two_ways(WALK, LOOP, 0, 0, (around + (ONE,), (ONE,))), True)
        self.assertEqual(told(webs.web_of, WALK, LOOP, 0, 1), (((0, 0), ((0, 1),)), ((0, 1), ((0, 0),))))

    def test_a_ring_of_one(self):
        still = (1, ((0,),), ((False,),))
        self.assertEqual(told(webs.two_ways, WALK, still, 0, 0), ((), (ONE,)))
        self.assertEqual(told(webs.asks_unlike, WALK, still, 0, 0), 1)
        self.assertRaises(CanNot, told, webs.web_depth, WALK, still, 0, 0)

    def test_the_lesser_way_may_be_the_longer_one(self):
        self.assertEqual(told(webs.two_ways, TWIN, FAR, 0, 0), ((ONE, ONE), (TWO,)))
        self.assertEqual(told(webs.web_depth, TWIN, FAR, 0, 0), 5)
        self.assertEqual(told(webs.asks_done, TWIN, FAR, 0, 0), 15)

    def test_two_calls_to_one_ask(self):
        self.assertIs(told(webs.is_web_tree, TWIN, FAR, 0, 3), True)
        self.assertRaises(CanNot, told, webs.two_ways, TWIN, FAR, 0, 3)
        self.assertIs(told(webs.is_web_tree, TWIN, LINE, 0, 1), False)
        self.assertEqual(told(webs.two_ways, TWIN, LINE, 0, 1), ((ONE,), (TWO,)))
        self.assertEqual(told(webs.asks_done, TWIN, LINE, 0, 1), 3)
        self.assertEqual(told(webs.asks_unlike, TWIN, LINE, 0, 1), 2)


class ErrorsTest(unittest.TestCase):

    def test_unfit_then_name_then_start(self):
        for function in ASKING + (webs.is_web_order, webs.is_two_ways):
            rest = () if function in ASKING else (None,)
            for name, start in ((0, 0), (1, 3), (-1, 0)):
                for meaning in ((3, (), LINE[2]), (3, LINE[1], ()), (3, (), ())):
                    self.assertRaises(Unfit, told, function, WALK, meaning, name, start, *rest)
            for name, start, place in ((1, 0, 1), (1, 3, 1), (-1, 3, -1), (0, 3, 3), (0, -1, -1)):
                with self.assertRaises(NoPlace) as caught:
                    told(function, WALK, LOOP, name, start, *rest)
                self.assertEqual(caught.exception.place, place)


if __name__ == "__main__":
    unittest.main()
