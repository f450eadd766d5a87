"""unwound.tails [19]."""

import itertools
import unittest

from tests import plain
from tests.support import chance, meaning_by_chance, odd_things, rules_by_chance, told, variants, word_by_chance
from unwound import tails
from unwound.errors import CanNot, NoPlace, Unfit
from unwound.loops import end_of, is_loops, may_fault
from unwound.meanings import is_for, is_meaning
from unwound.programs import is_program

AT = ("at", ())
HALT = ("leaf", AT)
WALK = (("ask", 0, HALT, ("leaf", ("make", 1, (AT, ("call", 0, (0,)))))),)
LINE, LOOP = (3, ((1, 2, 2),), ((False, False, True),)), (3, ((1, 0, 2),), ((False, False, True),))
SLIDE = (
    ("ask", 0, HALT, ("leaf", ("call", 1, (0,)))),
    ("ask", 1, ("leaf", ("call", 0, ())), ("leaf", ("make", 2, (AT, ("at", (1,)))))))
ONCE = (
    ("leaf", ("make", 0, (("call", 1, (0,)), ("call", 1, ())))), ("ask", 0, HALT, ("leaf", ("call", 2, (0,)))),
    ("ask", 1, ("leaf", ("call", 1, ())), HALT))
HOPS = (4, ((1, 2, 3, 3), (3, 3, 3, 3)), ((False, False, False, True), (True, True, False, False)))


def with_bare_calls(dice):
    """RULES many of whose calls are bare."""
    names, tests, rules = dice.randint(1, 4), dice.sample(range(9), 9), []
    for _ in range(names):
        rule = None
        for _ in range(dice.randint(1, 3)):
            call = ("call", dice.randrange(names), word_by_chance(dice, 2))
            kind = dice.random()
            leaf = call if kind < 0.5 else AT if kind < 0.7 else ("make", dice.randrange(9), (AT, ("at", (1,))))
            if dice.random() < 0.08:
                leaf = ("make", 7, (call, ("call", dice.randrange(names), (1,))))
            rule = ("leaf", leaf) if rule is None else ("ask", tests.pop(), rule, ("leaf", leaf))
        rules.append(rule)
    return tuple(rules)


def in_layers(dice):
    """RULES whose calls of their own NAME are bare, all others being of later NAMES."""
    names, tests, rules = dice.randint(2, 4), dice.sample(range(9), 9), []
    for name in range(names):
        rule = ("leaf", AT)
        for _ in range(dice.randint(1, 2)):
            leaf = ("call", name, (dice.randrange(2),))
            if name + 1 < names and dice.random() < 0.8:
                later = ("call", dice.randrange(name + 1, names), word_by_chance(dice, 2))
                leaf = dice.choice((later, ("make", 7, (later, later)), ("make", 7, (AT, later))))
            rule = ("ask", tests.pop(), *dice.sample((rule, ("leaf", leaf)), 2))
        rules.append(rule)
    return tuple(rules)


def programs(many):
    """PROGRAMS, many of whose calls are bare."""
    found, seed = [WALK, SLIDE, ONCE, (HALT,)], 0
    while len(found) < many:
        seed += 1
        rules = (rules_by_chance, with_bare_calls, with_bare_calls, in_layers)[seed % 4](chance(seed))
        if is_program(rules):
            found.append(rules)
    return found


def plain_bare_names(program):
    """The NAMES all own calls of whose COMPONENTS are bare."""
    found = []
    for name in range(len(program)):
        waiting = [
            call for other in plain.component(program, name) for leaf in plain.leaves(program[other])
            if leaf[0] != "call" for call in plain.calls(leaf) if call[0] in plain.component(program, name)]
        if not waiting:
            found.append(name)
    return tuple(found)


def plain_waits(program, meaning, ask):
    """The most calls that wait on a WAY from ask, which ends."""
    leaf = plain.leaf_of(program, meaning, ask)
    waiting = 0 if leaf[0] == "call" else 1
    return max([waiting + plain_waits(program, meaning, own) for own in plain.asked(program, meaning, ask)], default=0)


def plain_most(program, name=0, met=()):
    """The most calls that wait one behind another, by calls that come to no NAME again."""
    most = 0
    for leaf in plain.leaves(program[name]):
        for called, word in plain.calls(leaf):
            if called not in met + (name,):
                most = max(most, (leaf[0] != "call") + plain_most(program, called, met + (name,)))
    return most


PROGRAMS = programs(220)


class BareTest(unittest.TestCase):

    def test_bare_calls_and_names(self):
        for program in PROGRAMS:
            expected = tuple(
                (name, number) for name, rule in enumerate(program) for number, leaf in enumerate(plain.leaves(rule))
                if leaf[0] == "call")
            self.assertEqual(told(tails.bare_calls, program), expected)
            self.assertEqual(told(tails.bare_names, program), plain_bare_names(program))

    def test_a_call_alone_is_bare_and_may_wait_elsewhere(self):
        call = ("call", 0, (0,))
        program = (("ask", 0, HALT, ("ask", 1, ("leaf", call), ("leaf", ("make", 0, (call,))))),)
        self.assertEqual((tails.bare_calls(program), tails.bare_names(program)), (((0, 1),), ()))
        self.assertEqual(tails.bare_names((HALT, ("leaf", ("make", 0, (("call", 0, ()),))))), (0, 1))

    def test_waits(self):
        many, most = 0, 0
        for seed, program in enumerate(PROGRAMS):
            meaning = meaning_by_chance(chance(seed), 4)
            for name in range(len(program)):
                for start in range(4):
                    if plain.ends(program, meaning, (name, start)):
                        expected = plain_waits(program, meaning, (name, start))
                        many, most = many + 1, max(most, expected)
                        self.assertEqual(tails.waits(program, meaning, name, start), expected)
                    else:
                        with self.assertRaises(CanNot):
                            tails.waits(program, meaning, name, start)
        self.assertTrue(many > 900 and most > 2, (many, most))

    def test_led_on(self):
        rounds = endless = 0
        for seed, program in enumerate(PROGRAMS):
            meaning = meaning_by_chance(chance(seed), 4)
            for name in range(len(program)):
                for start in range(4):
                    row = [(name, start)]
                    while plain.leaf_of(program, meaning, row[-1])[0] == "call" and len(set(row)) == len(row):
                        row += plain.asked(program, meaning, row[-1])
                    if len(set(row)) < len(row):
                        rounds += 1
                        with self.assertRaises(CanNot):
                            tails.led_on(program, meaning, name, start)
                    else:
                        self.assertEqual(tails.led_on(program, meaning, name, start), tuple(row))
                        endless += not plain.ends(program, meaning, row[-1])
                        if plain.ends(program, meaning, row[-1]):
                            values = {repr(plain.value(program, meaning, ask)) for ask in row}
                            self.assertEqual(len(values), 1)
        self.assertTrue(rounds > 20 and endless > 20, (rounds, endless))

    def test_in_all_ways(self):
        told(tails.waits, WALK, LINE, 0, 0)
        told(tails.led_on, SLIDE, HOPS, 0, 0)
        told(tails.most_waits, ONCE)
        told(tails.waiting_meaning, WALK, 3)
        told(tails.is_waiting, WALK, 2, (LINE, 0))
        told(tails.bare_loops, SLIDE)

    def test_errors_in_their_order(self):
        for function in (tails.waits, tails.led_on):
            for program, meaning, name, start, error in (
                    (WALK, (1, (), ()), 9, 9, Unfit), (WALK, LINE, 1, 9, NoPlace), (WALK, LINE, 0, 3, NoPlace),
                    (WALK, (3, LINE[1], ()), 0, 0, Unfit)):
                with self.assertRaises(error) as caught:
                    told(function, program, meaning, name, start)
                if error is NoPlace:
                    self.assertEqual(caught.exception.place, 1 if name else 3)
        with self.assertRaises(CanNot):
            told(tails.waits, WALK, LOOP, 0, 0)
        self.assertEqual(tails.led_on(WALK, LOOP, 0, 0), ((0, 0),))
        rounds = (("ask", 0, HALT, ("leaf", ("call", 0, (0,)))),)
        with self.assertRaises(CanNot):
            told(tails.led_on, rounds, LOOP, 0, 1)
        self.assertEqual(tails.led_on(rounds, LOOP, 0, 2), ((0, 2),))


class BoundsTest(unittest.TestCase):

    def test_most_waits_and_meanings(self):
        counted = {}
        for program in PROGRAMS:
            bound = tails.most_waits(program)
            bare = plain_bare_names(program)
            self.assertIs(bound is None, not all(name in bare for name in plain.reached(program)))
            counted[bound] = counted.get(bound, 0) + 1
            for many in range(13 if bound is None else bound + 1):
                self.check_waiting(program, many)
            if bound is not None:
                self.assertEqual(bound, plain_most(program))
                for many in (bound + 1, bound + 2, 12):
                    with self.assertRaises(CanNot):
                        tails.waiting_meaning(program, many)
        self.assertTrue(all(counted.get(bound, 0) > 3 for bound in (0, 1, 2, None)), counted)

    def check_waiting(self, program, many):
        """waiting_meaning tells such a pair."""
        thing = tails.waiting_meaning(program, many)
        meaning, start = thing
        self.assertTrue(is_meaning(meaning) and is_for(meaning, program) and start < meaning[0])
        self.assertIs(tails.is_waiting(program, many, thing), True)
        self.assertTrue(plain.ends(program, meaning, (0, start)))
        if many < 4:
            self.assertGreaterEqual(plain_waits(program, meaning, (0, start)), many)

    def test_bounds_of_0_to_3(self):
        def nested(depth):
            return tuple(("leaf", ("make", 0, (("call", name + 1, ()), AT))) for name in range(depth)) + (HALT,)
        for depth in range(4):
            self.assertEqual(tails.most_waits(nested(depth)), depth)
        # The bound is that of the longest way; a call of a lesser NAME that is bare adds nothing.
        program = (
            ("ask", 0, ("leaf", ("call", 3, ())), ("leaf", ("make", 0, (("call", 1, ()),)))), ("leaf", ("call", 2, ())),
            ("ask", 2, HALT, ("leaf", ("call", 2, (0,)))), ("leaf", ("make", 0, (("call", 1, ()), ("call", 2, ())))))
        self.assertEqual(tails.most_waits(program), 1)
        self.assertEqual(tails.most_waits((HALT,) + WALK), 0)
        self.assertIsNone(tails.most_waits((("leaf", ("call", 1, ())), ("ask", 0, HALT, ("leaf", ("make", 1, (("call", 1, (0,)),)))))))

    def test_many_far_out(self):
        for many in (20, 100):
            self.assertIs(tails.is_waiting(WALK, many, tails.waiting_meaning(WALK, many)), True)
        self.assertIs(tails.is_waiting(WALK, 10 ** 20, (LINE, 0)), False)

    def test_what_is_nearly_waiting(self):
        own = (LINE, 0)
        self.assertIs(tails.is_waiting(WALK, 2, own), True)
        for thing in itertools.chain(variants(own), odd_things()):
            expected = False
            if isinstance(thing, tuple) and len(thing) == 2 and is_meaning(thing[0]) and thing[1] == 0 and thing[1] is not False:
                expected = is_for(thing[0], WALK) and plain.ends(WALK, thing[0], (0, 0)) and plain_waits(WALK, thing[0], (0, 0)) > 1
            self.assertIs(tails.is_waiting(WALK, 2, thing), expected, thing)
        for thing in ((LINE, 3), (LINE, 1), (LOOP, 0), (LINE, 0, 0), (LINE,), ((1, (), ()), 0), (LINE, False)):
            self.assertIs(tails.is_waiting(WALK, 2, thing), False, thing)
        self.assertIs(tails.is_waiting(WALK, 0, (LINE, 2)), True)
        self.assertIs(tails.is_waiting(WALK, 0, (LOOP, 0)), False)


class BareLoopsTest(unittest.TestCase):

    def test_they_do_it(self):
        tried, done, refused = 0, 0, 0
        for seed, program in enumerate(PROGRAMS):
            waiting = [
                name for name in plain.reached(program) for leaf in plain.leaves(program[name])
                if leaf[0] != "call" and plain.calls(leaf)]
            if waiting:
                refused += 1
                with self.assertRaises(Unfit):
                    told(tails.bare_loops, program)
                continue
            tried += 1
            own = tails.bare_loops(program)
            self.assertTrue(is_loops(own))
            self.assertEqual(own[1], 0)
            self.assertEqual(may_fault(own), ())
            for number in range(4):
                meaning = meaning_by_chance(chance(10 * seed + number), 5)
                for start in range(5):
                    if plain.ends(program, meaning, (0, start)):
                        done += 1
                        expected = ("stop", plain.value(program, meaning, (0, start)))
                        self.assertEqual(end_of(own, meaning, start), expected)
        self.assertTrue(tried > 60 and done > 700 and refused > 20, (tried, done, refused))

    def test_what_0_does_not_come_to_may_wait(self):
        self.assertEqual(tails.bare_loops((HALT,) + WALK)[0], 1)
        with self.assertRaises(Unfit):
            tails.bare_loops(WALK)
        with self.assertRaises(Unfit):
            tails.bare_loops((("leaf", ("make", 0, (("call", 1, ()),))), HALT))

    def test_calls_without_a_step(self):
        program = (("leaf", ("call", 1, ())), ("leaf", ("call", 2, ())), ("leaf", ("make", 3, (("at", (0,)), AT))))
        own = tails.bare_loops(program)
        self.assertEqual(end_of(own, LINE, 0), ("stop", ("make", 3, (("thing", 1), ("thing", 0)))))


if __name__ == "__main__":
    unittest.main()
