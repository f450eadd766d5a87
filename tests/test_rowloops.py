"""unwound.rowloops [14]."""

import unittest

from tests import plain
from tests.nests_by_chance import meanings_by_chance, row_rules
from tests.support import chance, rules_by_chance, told
from unwound import rowloops
from unwound.errors import CanNot, TooMuch, Unfit
from unwound.loops import end_of, is_loops, run, work
from unwound.meanings import answer
from unwound.programs import is_program
from unwound.rows import barred, rows_of
from unwound.sweeps import last_place

END, NEAR, FAR = ("leaf", ("at", ())), ("call", 0, (0,)), ("call", 0, (0, 0))
FIB = (("ask", 0, END, ("leaf", ("make", 0, (NEAR, FAR)))),)
TURNS = (
    ("ask", 0, END, ("leaf", ("make", 1, (("call", 0, (0, 1)), ("call", 1, (0,)))))),
    ("ask", 1, END, ("leaf", ("call", 0, (1,)))))
CHOOSING = (("ask", 0, END, ("ask", 1, ("leaf", NEAR), ("leaf", FAR))),)
ASIDE = (("ask", 0, END, ("leaf", ("make", 0, (NEAR, ("call", 1, ()))))), END)
FORKED = (("ask", 0, END, ("leaf", ("make", 1, (("call", 0, (0, 1)), ("call", 0, (1, 0)))))),)
NUMBERS = (rowloops.row_reach, rowloops.row_span, rowloops.row_cells, rowloops.row_flags)


def plain_along(program):
    """True if program goes along one row."""
    home = plain.component(program, 0)
    if plain.reached(program) != home or plain.kind(program, 0) == "still":
        return False
    if any(sum(1 for calls in plain.own_calls(program, name) if calls) != 1 for name in home):
        return False
    try:
        rows_of(program, 0)
    except CanNot:
        return False
    return True


def ring_of(many, word, extra=()):
    """A PROGRAM of so many NAMES, each of which calls the next one by word, and itself by the WORDS in extra."""
    rules = []
    for name in range(many):
        calls = [("call", (name + 1) % many, word)] + [("call", name, own) for own in extra]
        rules.append(("ask", name, END, ("leaf", ("make", name, tuple(calls)))))
    return tuple(rules)


def programs_by_chance(seed, many, most_names=4):
    """PROGRAMS along one row whose span is at most 12."""
    dice, found = chance(seed), []
    while len(found) < many:
        home = list(range(dice.randint(1, most_names)))
        program = tuple(row_rules(dice, home, [], dice.sample(range(12), 12), 0, dice.choice((1, 2, 3, 4))))
        if is_program(program) and plain_along(program) and rowloops.row_span(program) < 13:
            found.append(program)
    return found


class NumbersTest(unittest.TestCase):

    def test_along_row(self):
        along = 0
        for seed in range(900):
            dice = chance(seed)
            if seed % 3 == 0:
                program = rules_by_chance(dice)
            else:
                home = list(range(dice.randint(1, 3)))
                program = tuple(row_rules(dice, home, [], dice.sample(range(12), 12), 0, 3, seed % 3 == 1))
            if is_program(program):
                expected = plain_along(program)
                along += expected
                self.assertIs(told(rowloops.along_row, program), expected)
        self.assertTrue(100 < along < 500, along)

    def test_what_goes_along_no_row(self):
        lower = (("ask", 0, END, ("leaf", ("make", 1, (("call", 1, ()),)))),) + (
            ("ask", 1, END, ("leaf", ("make", 0, (("call", 1, (0,)), ("call", 1, (0, 0)))))),)
        for program in (CHOOSING, (END,), ASIDE, FORKED, lower):
            self.assertIs(told(rowloops.along_row, program), False)
            for function in NUMBERS + (rowloops.row_loops,):
                with self.assertRaises(Unfit):
                    told(function, program)
        for program in (FIB, TURNS, FIB + (END,), FIB + FORKED[:0] + (("leaf", ("call", 0, ())),)):
            self.assertIs(told(rowloops.along_row, program), True)

    def test_numbers(self):
        for program in programs_by_chance(4, 80) + [FIB, TURNS, FIB + (END,)]:
            names = plain.reached(program)
            words = [word for name in names for calls in plain.own_calls(program, name) for called, word in calls]
            reach = max(len(word) for word in words)
            span = len(names) * (reach + 1)
            parts = max(len(self.parts(leaf)) for name in names for leaf in plain.leaves(program[name]))
            expected = (reach, span, span + 4 + parts, 3 * span + 1)
            self.assertEqual(tuple(told(function, program) for function in NUMBERS), expected)

    def parts(self, term):
        """The unlike parts of term."""
        return {term}.union(*[self.parts(part) for part in term[2]] if term[0] == "make" else ())

    def test_spans(self):
        for program, span in (
                (ring_of(1, (0,) * 4), 5), (ring_of(3, (0, 1, 0)), 12), (ring_of(2, (0,) * 5), 12), (ring_of(4, (1, 1)), 12),
                (ring_of(1, (0,) * 11), 12)):
            self.assertEqual(rowloops.row_span(program), span)
            self.assertIs(is_loops(told(rowloops.row_loops, program)), True)
        for program, span in ((ring_of(3, (0,) * 4), 15), (ring_of(1, (0,) * 12), 13), (ring_of(4, (0, 1, 1)), 16), (ring_of(7, (0,)), 14)):
            self.assertEqual(rowloops.row_span(program), span)
            self.assertIs(rowloops.along_row(program), True)
            self.assertEqual(rowloops.row_flags(program), 3 * span + 1)
            with self.assertRaises(TooMuch):
                told(rowloops.row_loops, program)


class LoopsTest(unittest.TestCase):

    def check(self, program, meaning):
        """How many things end; the LOOPS stop with the answer for each of these."""
        own = rowloops.row_loops(program)
        self.assertIs(is_loops(own), True)
        self.assertTrue(own[0] <= rowloops.row_cells(program) and own[1] <= rowloops.row_flags(program))
        ended = 0
        for start in range(meaning[0]):
            try:
                value = answer(program, meaning, 0, start)
            except (CanNot, TooMuch):
                continue
            ended += 1
            self.assertEqual(end_of(own, meaning, start), ("stop", value), (program, meaning, start))
            if last_place(program, meaning, 0, start) <= 12:
                self.assertLessEqual(work(own, meaning, start)[0], 20000)
        return ended

    def test_by_chance(self):
        ended = 0
        for seed, program in enumerate(programs_by_chance(8, 220)):
            for meaning in meanings_by_chance(chance(seed), 12):
                ended += self.check(program, meaning)
        self.assertTrue(ended > 1200, ended)

    def test_long_rows(self):
        for program in (FIB, TURNS, ring_of(2, (0, 1)), ring_of(3, (0,)), ring_of(1, (0,), ((0, 0), (0, 0, 0, 0)))):
            for many in (1, 2, 5, 12):
                line = (many, (tuple(min(x + 1, many - 1) for x in range(many)),) * 2, (
                    (False,) * (many - 1) + (True,),) * 3)
                self.assertEqual(self.check(program, line), many)

    def test_calls_without_a_step(self):
        program = (
            ("ask", 0, END, ("leaf", ("make", 1, (("call", 1, ()), ("call", 2, ()), ("call", 0, (0,)))))),
            ("ask", 1, ("leaf", ("make", 2, (("call", 2, ()), ("call", 0, (0, 0))))), ("leaf", ("at", (1,)))),
            ("ask", 2, ("leaf", ("make", 3, (("call", 0, (0,)), ("at", ())))), ("leaf", ("make", 4, (("at", ()),)))))
        self.assertEqual(rowloops.row_span(program), 9)
        for seed in range(60):
            dice = chance(seed)
            line = (7, ((1, 2, 3, 4, 5, 6, 6), (0,) * 7), tuple(
                tuple(dice.random() < 0.4 if x < 6 else number == 0 for x in range(7)) for number in range(3)))
            self.assertEqual(self.check(program, line), 7)

    def test_a_row_that_is_longer_than_the_reach(self):
        program = (
            ("ask", 0, END, ("leaf", ("make", 1, (("call", 1, (0, 1)), ("at", ()))))),
            ("ask", 1, ("leaf", ("make", 2, (("call", 2, (1,)), ("call", 0, (1, 0, 1))))), END),
            ("ask", 2, END, ("leaf", ("make", 3, (("call", 0, (0, 1)), ("at", (0,)))))))
        self.assertEqual((barred(program), rows_of(program, 0)[1]), ([], (0, 1, 1, 0, 1)))
        for seed in range(60):
            dice = chance(seed)
            line = (15, tuple(tuple(min(x + 1, 14) for x in range(15)) for _ in range(2)), tuple(
                tuple(dice.random() < 0.2 if x < 14 else number != 1 for x in range(15)) for number in range(3)))
            self.assertEqual(self.check(program, line), 15)

    def test_great_answers(self):
        line = (40, (tuple(min(x + 1, 39) for x in range(40)),), ((False,) * 39 + (True,),))
        own = rowloops.row_loops(FIB)
        self.assertEqual(run(own, line, 30), answer(FIB, line, 0, 30))
        with self.assertRaises(TooMuch):
            run(own, line, 10)
        self.assertGreater(work(own, line, 10)[0], 500)


if __name__ == "__main__":
    unittest.main()
