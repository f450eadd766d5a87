"""unwound.paths [12]."""

import itertools
import unittest

from tests import plain
from tests.nests_by_chance import path_program
from tests.support import chance, meaning_by_chance, odd_things, rules_by_chance, told, variants
from unwound import paths
from unwound.errors import CanNot, NoPlace, TooMuch, Unfit
from unwound.loops import is_loops, may_fault, run, work
from unwound.meanings import answer
from unwound.programs import is_program

REST, HOME = ("leaf", ("at", ())), ("call", 0, (1,))
TRAIL = (
    ("ask", 0, REST, ("leaf", ("make", 1, (("at", ()), ("call", 1, (0,)))))),
    ("ask", 1, REST, ("leaf", ("make", 2, (HOME, HOME)))))
LANE = (5, ((1, 2, 3, 4, 4), (1, 2, 3, 4, 0)), ((False,) * 4 + (True,), (False,) * 4 + (True,)))
ROUND = (2, ((1, 0), (1, 0)), ((False, False), (False, False)))
WIDE = (("ask", 0, REST, ("leaf", ("make", 1, (HOME, ("call", 0, ()))))),)


def programs_by_chance(seed, many, **limits):
    """PROGRAMS along a path."""
    dice, found = chance(seed), []
    while len(found) < many:
        program = path_program(dice, **limits)
        if is_program(program) and plain.kind(program, 0) == "path":
            found.append(program)
    return found


def plain_along(program):
    """True if program goes along a path."""
    home = plain.component(program, 0)
    return plain.kind(program, 0) == "path" and all(
        name in home or plain.kind(program, name) == "still" for name in plain.reached(program))


def plain_chain(program, meaning, name, start):
    """The ASKS of the CHAIN and the WORDS between them; None if it comes to no end."""
    asks, words = [(name, start)], []
    while len(asks) < 200:
        leaf = plain.leaf_number(program[asks[-1][0]], meaning, asks[-1][1])
        calls = plain.own_calls(program, asks[-1][0])[leaf]
        if not calls:
            return tuple(asks), tuple(words)
        words.append(calls[0][1])
        asks.append((calls[0][0], plain.led(meaning, asks[-1][1], calls[0][1])))
    return None


class ChainsTest(unittest.TestCase):

    def test_along_path(self):
        along = 0
        for seed in range(400):
            dice = chance(seed)
            program = rules_by_chance(dice) if seed % 2 else path_program(dice)
            if is_program(program):
                expected = plain_along(program)
                along += expected
                self.assertIs(told(paths.along_path, program), expected)
        self.assertTrue(60 < along < 200, along)

    def test_along_path_asks_for_what_0_comes_to_alone(self):
        self.assertIs(paths.along_path(TRAIL + WIDE), True)
        self.assertIs(paths.along_path((("leaf", ("call", 1, ())), WIDE[0])), False)
        path = ("ask", 0, REST, ("leaf", ("make", 0, (("call", 0, (0,)), ("call", 1, ())))))
        for below, along in (
                (("ask", 1, REST, ("leaf", ("call", 1, (0,)))), False), (("leaf", ("at", (1,))), True),
                (("leaf", ("make", 1, (("at", ()),))), True)):
            self.assertIs(paths.along_path((path, below)), along)

    def test_chains(self):
        many = {True: 0, False: 0}
        for seed, program in enumerate(programs_by_chance(5, 150)):
            meaning = meaning_by_chance(chance(seed), 5, 2, 12)
            for name in plain.component(program, 0):
                lengths = []
                for start in range(5):
                    expected = plain_chain(program, meaning, name, start)
                    many[expected is None] += 1
                    lengths.append(None if expected is None else len(expected[1]))
                    if expected is None:
                        for function in (paths.chain, paths.chain_word):
                            with self.assertRaises(CanNot):
                                function(program, meaning, name, start)
                    else:
                        asks, words = expected
                        self.assertEqual(paths.chain(program, meaning, name, start), asks)
                        self.assertEqual(paths.chain_word(program, meaning, name, start), sum(words, ()))
                        self.assertIs(paths.is_chain(program, meaning, asks), True)
                        self.assertIs(paths.is_chain(program, meaning, asks[:-1]), False)
                        self.assertIs(paths.is_chain(program, meaning, asks + asks[-1:]), False)
                        self.assertIs(paths.is_chain(program, meaning, asks[1:]), len(asks) > 1)
                self.assertEqual(paths.chain_lengths(program, meaning, name), tuple(lengths))
        self.assertTrue(many[True] > 50 and many[False] > 300, many)

    def test_in_all_ways(self):
        told(paths.chain, TRAIL, LANE, 0, 1)
        told(paths.chain_word, TRAIL, LANE, 0, 1)
        told(paths.chain_lengths, TRAIL, LANE, 0)
        told(paths.chain_lengths, TRAIL, ROUND, 1)
        told(paths.is_chain, TRAIL, LANE, ((1, 3), (0, 4)))
        told(paths.path_loops, TRAIL)

    def test_chains_of_a_component_that_0_does_not_come_to(self):
        program = (REST,) + TRAIL[1:] + (("ask", 0, REST, ("leaf", ("call", 2, (0,)))),)
        self.assertEqual(paths.chain(program, LANE, 2, 2), ((2, 2), (2, 3), (2, 4)))
        self.assertEqual(paths.chain_word(program, LANE, 2, 2), (0, 0))

    def test_what_is_nearly_a_chain(self):
        asks = paths.chain(TRAIL, LANE, 0, 1)
        for thing in itertools.chain(variants(asks), odd_things()):
            self.assertIs(paths.is_chain(TRAIL, LANE, thing), False, thing)
        for thing in (asks[::-1], asks + asks, ((0, 5),), ((2, 0),), ((2, 4),), ((0, 4), (0, 4)), ((0, 4, 4),), ((10 ** 30, 0),)):
            self.assertIs(paths.is_chain(TRAIL, LANE, thing), False, thing)
        self.assertIs(paths.is_chain(TRAIL, LANE, ((0, 4),)), True)
        self.assertIs(paths.is_chain((REST,), LANE, ((0, 4),)), False)
        self.assertIs(paths.is_chain(TRAIL, ROUND, ((0, 0), (1, 1), (0, 0))), False)
        self.assertIs(paths.is_chain(TRAIL, ROUND, ((0, 0),)), False)

    def test_chains_beyond_the_bounds(self):
        down = (("ask", 0, REST, ("leaf", ("make", 1, (("call", 0, (0,)), ("at", ()))))),)
        far = (500, (tuple(min(x + 1, 499) for x in range(500)),), ((False,) * 499 + (True,),))
        asks = tuple((0, x) for x in range(500))
        self.assertIs(paths.is_chain(down, far, asks), True)
        self.assertIs(paths.is_chain(down, far, asks[:-1]), False)
        self.assertEqual(paths.chain(down, far, 0, 0), asks)
        self.assertEqual(paths.chain_lengths(down, far, 0), tuple(range(499, -1, -1)))

    def test_errors_in_their_order(self):
        program = TRAIL + (REST,)
        short = (5, LANE[1][:1], LANE[2])
        for function in (paths.chain, paths.chain_word):
            for meaning, name, start, error in (
                    (short, 9, 9, Unfit), (LANE, 9, 9, NoPlace), (LANE, 2, 9, NoPlace), (LANE, 2, 0, Unfit),
                    (ROUND, 0, 0, CanNot)):
                with self.assertRaises(error) as caught:
                    told(function, program, meaning, name, start)
                if error is NoPlace:
                    self.assertEqual(caught.exception.place, 9)
        for meaning, name, error in ((short, 9, Unfit), (LANE, 9, NoPlace), (LANE, 2, Unfit)):
            with self.assertRaises(error):
                told(paths.chain_lengths, program, meaning, name)
        with self.assertRaises(Unfit):
            told(paths.is_chain, program, short, ((0, 4),))
        with self.assertRaises(Unfit):
            paths.is_chain(program, (5, LANE[1], LANE[2][:1]), None)
        with self.assertRaises(Unfit):
            paths.chain(WIDE, (1, ((0,), (0,)), ((True,),)), 0, 0)


class LoopsTest(unittest.TestCase):

    def check(self, program, meaning):
        """How many things have a CHAIN; the LOOPS stop with the answer for each of these."""
        own = paths.path_loops(program)
        self.assertIs(is_loops(own), True)
        self.assertTrue(own[0] <= 400 and own[1] <= 400 and len(own[2]) <= 20000)
        found = 0
        for start in range(meaning[0]):
            expected = plain_chain(program, meaning, 0, start)
            if expected is None:
                continue
            try:
                value = answer(program, meaning, 0, start)
            except TooMuch:
                continue
            self.assertEqual(run(own, meaning, start), value, (program, meaning, start))
            many = len(expected[1])
            self.assertLessEqual(work(own, meaning, start)[0], 200 * (many + 1) * (many + 2))
            found += 1
        return found

    def test_by_chance(self):
        found = 0
        for seed, program in enumerate(programs_by_chance(11, 300)):
            found += self.check(program, meaning_by_chance(chance(seed), 6, 2, 12))
        self.assertTrue(found > 900, found)

    def test_long_chains(self):
        for program in programs_by_chance(12, 60):
            for many in (1, 12):
                steps = tuple(tuple(min(x + size, many - 1) for x in range(many)) for size in (1, 2))
                tests = tuple(tuple((x + number) % (2 + number % 3) == 0 for x in range(many)) for number in range(12))
                self.check(program, (many, steps, tests))

    def test_leadings_by_own_calls(self):
        # Nothing but own calls leads here, each by one STEP.
        body = ("leaf", ("make", 1, (("at", ()), ("call", 1, (0,)), ("call", 1, (0,)))))
        program = (("ask", 0, REST, body), ("ask", 1, REST, ("leaf", ("call", 2, (0,)))), ("ask", 2, ("leaf", ("call", 0, (0,))), REST))
        for many in (1, 2, 3, 7, 20):
            line = (many, (tuple(min(x + 1, many - 1) for x in range(many)),), (
                (False,) * (many - 1) + (True,), (False,) * (many - 1) + (True,), (True,) * (many - 1) + (False,)))
            for start in range(many):
                calls = many - 1 - start
                self.assertEqual(paths.chain_lengths(program, line, 0)[start], calls)
                self.assertLessEqual(work(paths.path_loops(program), line, start)[1], (calls + 1) * (calls + 2))
                self.assertEqual(run(paths.path_loops(program), line, start), answer(program, line, 0, start))

    def test_calls_without_a_step(self):
        program = (
            ("ask", 0, REST, ("leaf", ("make", 1, (("call", 1, ()),)))), ("ask", 1, ("leaf", ("call", 0, (0,))), ("leaf", ("make", 2, (("at", ()),)))))
        for held in (True, False):
            line = (4, ((1, 2, 3, 3),), ((False, False, False, True), (True, held, True, True)))
            self.assertEqual(self.check(program, line), 4)

    def test_still_names_that_are_asked(self):
        one = ("ask", 1, ("leaf", ("make", 3, (("at", (0,)), ("call", 2, (1,))))), ("leaf", ("call", 2, ())))
        two = ("ask", 2, REST, ("leaf", ("make", 4, (("at", (1,)),))))
        body = ("make", 1, (("call", 1, ()), ("call", 0, (0,)), ("call", 1, (1,)), ("make", 2, (("call", 2, ()), ("call", 1, ())))))
        program = (("ask", 0, ("leaf", ("make", 5, (("call", 1, (0,)), ("call", 2, ())))), ("leaf", body)), one, two)
        for seed in range(40):
            meaning = meaning_by_chance(chance(seed), 6, 2, 3)
            self.check(program, meaning)

    def test_twelve_leaves_of_four_parts(self):
        rules = []
        for name in range(4):
            leaves = [("make", number, tuple(("call", name + 1, (number, place)) for place in range(3))) for number in range(3)]
            if name == 3:
                leaves = [("make", number, (("at", ()), ("at", (number,)), ("at", (3,)))) for number in range(3)]
            if name == 0:
                leaves[2] = ("make", 9, (("call", 0, (3,)),) + leaves[2][2][:2])
            leaves = [("leaf", leaf) for leaf in leaves]
            rules.append(("ask", 2 * name, leaves[0], ("ask", 2 * name + 1, leaves[1], leaves[2])))
        found = 0
        for seed in range(6):
            found += self.check(tuple(rules), meaning_by_chance(chance(seed), 4, 4, 8))
        self.assertGreater(found, 12)

    def test_faults_come_in_no_run(self):
        simple = (("ask", 0, REST, ("leaf", ("make", 1, (("call", 0, (0,)), ("at", ()))))),)
        self.assertTrue(all(block < len(paths.path_loops(simple)[2]) for block, place in may_fault(paths.path_loops(simple))))
        self.check(simple, LANE)

    def test_what_goes_along_no_path(self):
        for program in ((REST,), WIDE, (("leaf", ("call", 1, ())), ("ask", 0, REST, ("leaf", ("call", 1, (0,)))))):
            with self.assertRaises(Unfit):
                told(paths.path_loops, program)


if __name__ == "__main__":
    unittest.main()
