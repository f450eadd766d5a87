"""unwound.nests [15]."""

import itertools
import unittest

from tests import plain
from tests.nests_by_chance import meanings_by_chance, nest_program, path_rules, row_rules, wide_rules
from tests.support import chance, odd_things, rules_by_chance, told, variants
from tests.test_loops import loops_by_chance
from unwound import nests
from unwound.errors import CanNot, TooMuch, Unfit
from unwound.loops import end_of, is_loops, work
from unwound.meanings import answer
from unwound.programs import is_program
from unwound.rows import barred

STILL, STOP_NOW = ("leaf", ("at", ())), (1, 0, (((), ("stop", 0)),))
WALK = (("ask", 0, STILL, ("leaf", ("make", 1, (("at", ()), ("call", 0, (0,)))))),)
LINE = (3, ((1, 2, 2),), ((False, False, True),))
LOOP = (3, ((1, 0, 2),), ((False, False, True),))
DEEP = (
    ("ask", 0, STILL, ("leaf", ("make", 1, (("call", 0, (0,)), ("call", 1, ()))))),
    ("ask", 1, STILL, ("leaf", ("make", 2, (("call", 1, (1,)), ("call", 1, (1, 1)))))))
THREE = DEEP[:1] + (
    ("ask", 1, STILL, ("leaf", ("make", 2, (("call", 1, (1,)), ("call", 2, ()), ("call", 1, (1, 1)))))),
    ("ask", 2, ("leaf", ("call", 3, (0,))), ("leaf", ("make", 4, (("call", 2, (0,)), ("call", 3, ()))))),
    ("ask", 3, STILL, ("leaf", ("make", 5, (("at", ()), ("at", (1,)))))))
FORKED = (("ask", 0, STILL, ("leaf", ("make", 1, (("call", 0, (0, 1)), ("call", 0, (1, 0)))))),)
NOT_PLAIN = (("ask", 0, STILL, ("ask", 1, ("leaf", ("call", 0, (0,))), ("leaf", ("make", 1, (("call", 0, (0,)), ("call", 0, (0, 0))))))),)
DOUBLING = (("ask", 0, STILL, ("leaf", ("make", 1, (("call", 0, (0,)),) * 4))),)


def plain_nest(program):
    """The nest."""
    names = plain.reached(program)
    return tuple(home for home in plain.components(program) if home[0] in names)


def plain_depth(program):
    """The depth of the nest, told by all rows of COMPONENTS."""
    nest = [home for home in plain_nest(program) if plain.kind(program, home[0]) != "still"]
    for many in range(len(nest), 0, -1):
        for row in itertools.permutations(nest, many):
            if all(set(after) & plain.comes_to(program, home[0]) for home, after in zip(row, row[1:])):
                return many
    return 0


def plain_slip(program, own, meaning, x):
    """True if x is a slip; TooMuch as is_slip."""
    if not plain.ends(program, meaning, (0, x)):
        return False
    value = answer(program, meaning, 0, x)
    return end_of(own, meaning, x) != ("stop", value)


class NestsTest(unittest.TestCase):

    def test_nests(self):
        depths = {}
        for seed in range(700):
            dice = chance(seed)
            program = nest_program(dice) if seed % 3 else rules_by_chance(dice)
            if is_program(program):
                self.assertEqual(told(nests.nest_of, program), plain_nest(program))
                depth = told(nests.nest_depth, program)
                self.assertEqual(depth, plain_depth(program))
                depths[depth] = depths.get(depth, 0) + 1
        self.assertTrue(depths[0] > 10 and depths[1] > 50 and depths[2] > 20 and depths[3] > 0, depths)

    def test_still_names_between_do_not_count(self):
        program = (
            ("ask", 0, STILL, ("leaf", ("make", 0, (("call", 0, (0,)), ("call", 1, ()))))), ("leaf", ("call", 2, (0,))),
            ("ask", 2, STILL, ("leaf", ("call", 2, (0,)))), ("ask", 3, STILL, ("leaf", ("call", 3, (0,)))))
        self.assertEqual((nests.nest_of(program), nests.nest_depth(program)), (((2,), (1,), (0,)), 2))
        self.assertEqual((nests.nest_of(THREE), nests.nest_depth(THREE)), (((3,), (2,), (1,), (0,)), 3))


class LoopsTest(unittest.TestCase):

    def check(self, program, meanings):
        """How many things end; slips is () for loops_of."""
        own = nests.loops_of(program)
        self.assertIs(is_loops(own), True)
        ended = 0
        for meaning in meanings:
            ends = [x for x in range(meaning[0]) if plain.ends(program, meaning, (0, x))]
            try:
                self.assertEqual(nests.slips(program, own, meaning), (), (program, meaning))
            except TooMuch:
                with self.assertRaises(TooMuch):
                    [answer(program, meaning, 0, x) for x in ends]
                continue
            ended += len(ends)
            for x in ends:
                self.assertIs(nests.is_slip(program, own, (meaning, x)), False)
        return ended

    def test_by_chance(self):
        depths, ended = {}, 0
        for seed in range(1400):
            dice = chance(seed)
            program = nest_program(dice, dice.choice((1, 2)))
            if not is_program(program):
                continue
            try:
                nests.loops_of(program)
            except (CanNot, TooMuch, Unfit):
                continue
            depth = nests.nest_depth(program)
            depths[depth] = depths.get(depth, 0) + 1
            ended += self.check(program, meanings_by_chance(dice))
        self.assertTrue(min(depths.get(depth, 0) for depth in range(3)) > 50 and depths[3] > 5, depths)
        self.assertGreater(ended, 2500)

    def test_three_deep(self):
        for program in (WALK, DEEP, THREE, (STILL,), WALK + FORKED):
            for seed in range(25):
                self.check(program, meanings_by_chance(chance(seed), 4))

    def test_rows_and_paths_within_one_another(self):
        found = 0
        for seed in range(500):
            dice = chance(seed)
            tests = dice.sample(range(20), 20)
            kinds = dice.choice(((row_rules, path_rules), (path_rules, row_rules), (row_rules, row_rules), (path_rules, path_rules)))
            program = tuple(kinds[0](dice, [0, 1], [2], tests, 2) + kinds[1](dice, [2], [], tests, 0))
            if is_program(program) and nests.nest_depth(program) == 2 and not barred(program):
                found += 1
                self.check(program, meanings_by_chance(dice))
        self.assertGreater(found, 60)

    def test_a_row_that_is_asked_at_another_name(self):
        inner = (
            ("ask", 1, STILL, ("leaf", ("make", 1, (("call", 2, (0,)), ("call", 1, (0, 1)))))),
            ("ask", 2, STILL, ("leaf", ("make", 2, (("call", 1, (1,)), ("call", 2, (1, 0)), ("at", (0,)))))))
        for own in (1, 2):
            outer = ("ask", 0, ("leaf", ("call", own, ())), ("leaf", ("make", 3, (("call", 0, (0,)), ("call", own, (1,))))))
            for seed in range(40):
                self.check((outer,) + inner, meanings_by_chance(chance(seed), 3))

    def test_errors_in_their_order(self):
        too_wide = (("ask", 2, STILL, ("leaf", ("make", 1, (("call", 0, (0,)), ("call", 0, (0,) * 12))))),)
        for program, error in (
                (NOT_PLAIN, Unfit), (FORKED, CanNot), (too_wide, TooMuch), (self.above(NOT_PLAIN, FORKED), Unfit),
                (self.above(FORKED, NOT_PLAIN), Unfit), (self.above(too_wide, NOT_PLAIN), Unfit),
                (self.above(too_wide, FORKED), CanNot), (self.above(FORKED, too_wide), CanNot)):
            self.assertTrue(is_program(program), program)
            with self.assertRaises(error):
                told(nests.loops_of, program)
        self.assertIs(is_loops(told(nests.loops_of, WALK + (("leaf", ("at", ())),))), True)
        just = (("ask", 2, STILL, ("leaf", ("make", 1, (("call", 0, (0,)), ("call", 0, (0,) * 11))))),)
        self.assertIs(is_loops(nests.loops_of(just)), True)
        # A path may be as long as it will.
        path = (("ask", 2, STILL, ("leaf", ("call", 0, (0,) * 40))),)
        self.assertIs(is_loops(nests.loops_of(path)), True)

    def above(self, one, other):
        """A PROGRAM whose NAME 0 asks for both, of one NAME each."""
        def moved(term, by):
            if term[0] == "make":
                return term[:2] + (tuple(moved(part, by) for part in term[2]),)
            return term if term[0] == "at" else ("call", by, term[2])

        def anew(rule, by):
            if rule[0] == "leaf":
                return "leaf", moved(rule[1], by)
            return "ask", rule[1] + 5 * by, anew(rule[2], by), anew(rule[3], by)
        top = ("leaf", ("make", 0, (("call", 1, ()), ("call", 2, ()))))
        return top, anew(one[0], 1), anew(other[0], 2)

    def test_what_0_does_not_come_to(self):
        for more in (FORKED, NOT_PLAIN):
            rules = tuple(("ask", 5, rule[2], self.renamed(rule[3])) for rule in more)
            program = WALK + rules
            self.assertTrue(is_program(program), program)
            self.check(program, [(3, LINE[1] * 2, LINE[2] * 7)])

    def renamed(self, choice):
        """A CHOICE with a call of NAME 1 instead of NAME 0."""
        if choice[0] == "ask":
            return "ask", 6, self.renamed(choice[2]), self.renamed(choice[3])
        term = choice[1]
        calls = term[2] if term[0] == "make" else (term,)
        return "leaf", ("make", 1, tuple(("call", 1, call[2]) for call in calls))


class SlipsTest(unittest.TestCase):

    def test_by_chance(self):
        counted = {True: 0, False: 0}
        for seed in range(500):
            dice = chance(seed)
            program, own = nest_program(dice, 1), loops_by_chance(dice)
            if not is_program(program):
                continue
            if seed % 4 == 0:
                program = ((("leaf", ("at", ())), ("leaf", ("at", (0,))), ("leaf", ("make", 0, (("at", ()),))))[seed // 4 % 3],)
            for meaning in meanings_by_chance(dice):
                try:
                    expected = tuple(x for x in range(meaning[0]) if plain_slip(program, own, meaning, x))
                except TooMuch:
                    continue
                self.assertEqual(nests.slips(program, own, meaning), expected)
                for x in range(meaning[0]):
                    counted[x in expected] += 1
                    self.assertIs(nests.is_slip(program, own, (meaning, x)), x in expected)
        self.assertTrue(min(counted.values()) > 300, counted)

    def test_each_kind_of_slip(self):
        fault, ever = (2, 0, (((), ("stop", 1)),)), (1, 0, (((), ("go", 0)),))
        for own, found in ((STOP_NOW, (0, 1)), (fault, (0, 1, 2)), (ever, (0, 1, 2)), (nests.loops_of(WALK), ())):
            self.assertEqual(told(nests.slips, WALK, own, LINE), found)
        for own, found in ((STOP_NOW, ()), (fault, (2,)), (ever, (2,)), (nests.loops_of(WALK), ())):
            self.assertEqual(told(nests.slips, WALK, own, LOOP), found)

    def test_what_is_nearly_a_slip(self):
        self.assertIs(told(nests.is_slip, WALK, STOP_NOW, (LINE, 1)), True)
        for thing in itertools.chain(variants((LINE, 0)), odd_things()):
            self.assertIs(nests.is_slip(WALK, STOP_NOW, thing), False, thing)
        for thing in ((LINE, 2), (LINE, 3), (LOOP, 0), [LINE, 1], (LINE,), (LINE, 1, 1), ((3, (), LINE[2]), 1), ((3, LINE[1], ()), 1)):
            self.assertIs(nests.is_slip(WALK, STOP_NOW, thing), False, thing)
        stepping = (1, 0, (((("step", 0, 1),), ("stop", 0)),))
        self.assertIs(nests.is_slip(WALK, stepping, (LINE, 1)), False)
        self.assertIs(nests.is_slip(WALK, stepping, ((3, LINE[1] * 2, LINE[2]), 1)), True)
        many = 300
        long = (many, (tuple(min(x + 1, many - 1) for x in range(many)),), (tuple(x > 280 for x in range(many)),))
        self.assertIs(nests.is_slip(WALK, STOP_NOW, (long, 279)), True)
        self.assertIs(nests.is_slip(WALK, STOP_NOW, (long, 290)), False)

    def test_unfit_is_first(self):
        stepping, asking = (1, 0, (((("step", 0, 1),), ("stop", 0)),)), (1, 0, (((), ("ask", 1, 0, 0, 0)),))
        for own, meaning in ((STOP_NOW, (3, (), LINE[2])), (STOP_NOW, (3, LINE[1], ())), (stepping, LINE), (asking, LINE)):
            with self.assertRaises(Unfit):
                told(nests.slips, WALK, own, meaning)
        # None of these ends, and the answers of those would be too great.
        with self.assertRaises(Unfit):
            told(nests.slips, WALK, stepping, (2, ((1, 0),), ((False, False),)))
        great = (8, ((1, 2, 3, 4, 5, 6, 7, 7),), ((False,) * 7 + (True,),))
        with self.assertRaises(Unfit):
            told(nests.slips, DOUBLING, stepping, great)

    def test_too_much(self):
        great = (8, ((1, 2, 3, 4, 5, 6, 7, 7),), ((False,) * 7 + (True,),))
        counting = tuple(((), ("go", number + 1)) for number in range(20000)) + (((), ("stop", 0)),)
        slow = (1, 0, counting)
        made = (1, 0, ((tuple(("make", 0, 0, (0,) * 9) for _ in range(4)), ("stop", 0)),))
        for own in (STOP_NOW, slow, made):
            with self.assertRaises(TooMuch):
                nests.is_slip(DOUBLING, own, (great, 0))
        for own in (slow, made):
            with self.assertRaises(TooMuch):
                nests.is_slip(DOUBLING, own, (great, 7))
            with self.assertRaises(TooMuch):
                told(nests.slips, WALK, own, LINE)
        self.assertIs(nests.is_slip(DOUBLING, STOP_NOW, (great, 7)), False)
        self.assertIs(nests.is_slip(DOUBLING, STOP_NOW, (great, 5)), True)
        with self.assertRaises(TooMuch):
            told(nests.slips, DOUBLING, STOP_NOW, great)
        # Things whose ASKS do not end are not looked at.
        for own in (slow, made):
            self.assertEqual(nests.slips(WALK, own, (2, ((1, 0),), ((False, False),))), ())
            self.assertIs(nests.is_slip(WALK, own, (LOOP, 0)), False)


class WorkTest(unittest.TestCase):

    def test_blocks_done_stay_few(self):
        many = 8
        steps = (tuple(min(x + 1, many - 1) for x in range(many)),) * 2
        meaning = (many, steps, ((False,) * (many - 1) + (True,),) * 4)
        for program in (WALK, DEEP):
            self.assertLess(work(nests.loops_of(program), meaning, 0)[0], 5000)
        self.assertTrue(is_program(THREE) and nests.nest_depth(THREE) == 3)

    def test_wide_components_beside_one_another(self):
        for seed in range(300):
            dice = chance(seed)
            program = nest_program(dice, 1, (wide_rules,))
            if is_program(program):
                if barred(program):
                    with self.assertRaises((CanNot, Unfit)):
                        nests.loops_of(program)


if __name__ == "__main__":
    unittest.main()
