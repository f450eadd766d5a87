"""unwound.meanings [8]."""

import unittest

from tests import plain
from tests.support import (
    chance, deep_program, meaning_by_chance, mixed, nested, odd_things, outcome, rules_by_chance, told, variants,
    word_by_chance)
from unwound import meanings
from unwound.errors import CanNot, NoPlace, TooMuch, Unfit

END = ("leaf", ("at", ()))
WALK = (("ask", 0, END, ("leaf", ("make", 1, (("at", ()), ("call", 0, (0,)))))),)
TWIN = (("ask", 0, END, ("leaf", ("make", 1, (("call", 0, (0,)), ("call", 0, (0, 0)))))),)
LINE = (3, ((1, 2, 2),), ((False, False, True),))
LOOP = (3, ((1, 0, 2),), ((False, False, True),))


def growing(test, name):
    """A RULE: where TEST test holds it ends; else the parts are doubled, and 1 more, or 1 more, as the next one tells."""
    call = ("call", name, (0,))
    return ("ask", test, END, (
        "ask", test + 1, ("leaf", ("make", 0, (call, call))), ("leaf", ("make", 0, (call,)))))


GROWING = (growing(0, 0),)
# TEST 1 tells whether two more "make" stand around, or one more.
DEEPER = (("ask", 0, END, (
    "ask", 1, ("leaf", ("make", 0, (("make", 1, (("call", 0, (0,)),)),))), ("leaf", ("make", 0, (("call", 0, (0,)),))))),)


def line_with(choices):
    """A MEANING whose things go on one by one to the last, which alone ends; TEST 1 as choices tell."""
    many = len(choices) + 1
    steps = (tuple(min(x + 1, many - 1) for x in range(many)),)
    return many, steps, ((False,) * (many - 1) + (True,), tuple(choices) + (False,))


def line_of_parts(many):
    """A MEANING in which the answer of GROWING at 0 has so many parts."""
    choices = []
    while many > 1:
        choices.append(many % 2 == 1)
        many = (many - 1) // 2 if many % 2 == 1 else many - 1
    return line_with(choices)


def pairs_by_chance(seed, many):
    """PROGRAMS with MEANINGS for them."""
    dice, pairs = chance(seed), []
    while len(pairs) < many:
        program = rules_by_chance(dice, 3)
        if plain.least_ring(program) is None and not plain.endless(program):
            pairs.append((program, meaning_by_chance(dice, dice.randint(1, 5))))
    return pairs


PAIRS = pairs_by_chance(80, 150)
ASKING = (
    meanings.leaf_at, meanings.asks_at, meanings.asks_from, meanings.ring_from, meanings.answer,
    meanings.answer_parts)


def all_asks(program, meaning):
    return [(name, x) for name in range(len(program)) for x in range(meaning[0])]


class KindsTest(unittest.TestCase):

    def test_meanings(self):
        dice = chance(81)
        for _ in range(100):
            thing = meaning_by_chance(dice, dice.randint(1, 9), dice.randint(0, 4), dice.randint(0, 4))
            self.assertIs(told(meanings.is_meaning, thing), True)

    def test_what_is_nearly_a_meaning(self):
        for meaning in (LINE, (1, ((0,),), ((True,),)), (2, ((1, 0), (1, 1)), ((False, True),))):
            self.assertIs(meanings.is_meaning(meaning), True)
            for thing in variants(meaning):
                self.assertIs(meanings.is_meaning(thing), False, thing)
        for thing in (
                (0, (), ()), (0, ((),), ()), (1, ()), (1, (), (), ()), (2, ((0,),), ()), (2, ((0, 1, 1),), ()),
                (2, ((0, 2),), ()), (2, (), ((True,),)), (2, (), ((True, False, True),)), (2, (0, 1), ()), (2, (), (True,)),
                (2, ((0, 1), ()), ()), (1, ((1,),), ()), (-1, (), ()), ()):
            self.assertIs(meanings.is_meaning(thing), False, thing)
        for thing in ((1, (), ()), (10 ** 30, (), ())):
            self.assertIs(meanings.is_meaning(thing), True)

    def test_meanings_beyond_the_bounds(self):
        thing = (5000, (tuple(range(5000)),) * 20, ((True,) * 5000,) * 20)
        self.assertIs(meanings.is_meaning(thing), True)
        self.assertIs(meanings.is_meaning((4999,) + thing[1:]), False)

    def test_values(self):
        for thing in (("thing", 0), ("thing", 10 ** 20), ("make", 0, (("thing", 1), ("make", 2, (("thing", 1),))))):
            self.assertIs(told(meanings.is_value, thing), True)
            for other in variants(thing):
                self.assertIs(meanings.is_value(other), False, other)
        for thing in (
                (), ("thing",), ("thing", 0, 0), ("make", 0, ()), ("make", 0), ("make", 0, (("thing", 0),), ()),
                ("at", ()), ("make", 0, (("at", ()),)), ("thing", (0,)), ("make", 0, ("thing", 0)), ("call", 0, ())):
            self.assertIs(meanings.is_value(thing), False, thing)

    def test_values_beyond_the_bounds(self):
        deep = nested(49, lambda value: ("make", 0, (value or ("thing", 3),)))
        self.assertIs(meanings.is_value(deep), True)
        self.assertIs(meanings.is_value(nested(49, lambda value: ("make", 0, (value or ("at", ()),)))), False)
        self.assertIs(meanings.is_value(("make", 11, (("thing", 40),) * 5000)), True)
        self.assertIs(meanings.is_value(("make", 11, (("thing", 40),) * 5000 + (7,))), False)

    def test_other_things(self):
        for thing in odd_things():
            for function in (meanings.is_meaning, meanings.is_value):
                self.assertIs(function(thing), False, repr(thing)[:80])
                self.assertIs(function(thing=thing), False)
            self.assertIs(meanings.is_ring(WALK, LOOP, 0, 0, thing), False)

    def test_is_for(self):
        for program, meaning in PAIRS:
            leaves = [leaf for rule in program for leaf in plain.leaves(rule)]
            steps = max([step + 1 for leaf in leaves for word in plain.words(leaf) for step in word], default=0)
            tests = max([test + 1 for rule in program for test in plain.tests(rule)], default=0)
            many, step_tables, test_tables = meaning
            for less in (0, 1):
                for other in (0, 1):
                    short = many, (step_tables * 3)[:max(steps - less, 0)], (test_tables * 3)[:max(tests - other, 0)]
                    expected = len(short[1]) == steps and len(short[2]) == tests
                    self.assertIs(told(meanings.is_for, short, program), expected)
            self.assertIs(meanings.is_for(meaning, program), True)

    def test_is_for_of_names_that_0_does_not_come_to(self):
        program = (END, ("ask", 3, END, ("leaf", ("at", (4,)))))
        self.assertIs(told(meanings.is_for, (1, ((0,),) * 5, ((True,),) * 4), program), True)
        self.assertIs(told(meanings.is_for, (1, ((0,),) * 4, ((True,),) * 4), program), False)
        self.assertIs(told(meanings.is_for, (1, ((0,),) * 5, ((True,),) * 3), program), False)
        self.assertIs(told(meanings.is_for, (1, (), ()), (END,)), True)


class LeadingTest(unittest.TestCase):

    def test_led_thing(self):
        dice = chance(82)
        for program, meaning in PAIRS:
            word = word_by_chance(dice, 4)
            for start in range(meaning[0]):
                self.assertEqual(told(meanings.led_thing, meaning, start, word), plain.led(meaning, start, word))

    def test_led_thing_errors(self):
        for start in (0, 3, -1):
            self.assertRaises(Unfit, told, meanings.led_thing, LINE, start, (0, 1))
        for start in (3, -1, 10 ** 9):
            with self.assertRaises(NoPlace) as caught:
                told(meanings.led_thing, LINE, start, (0, 0))
            self.assertEqual(caught.exception.place, start)
            self.assertRaises(NoPlace, told, meanings.led_thing, LINE, start, ())
        self.assertEqual(told(meanings.led_thing, (2, (), ()), 1, ()), 1)
        self.assertRaises(Unfit, told, meanings.led_thing, (3, LINE[1], LINE[2] * 5), 0, (0, 1))
        self.assertEqual(told(meanings.led_thing, (3, LINE[1] * 3, ()), 0, (2, 1)), 2)


class AsksTest(unittest.TestCase):

    def test_asks(self):
        for program, meaning in PAIRS:
            for ask in all_asks(program, meaning):
                expected = (
                    plain.leaf_number(program[ask[0]], meaning, ask[1]),
                    tuple(sorted(plain.asked(program, meaning, ask))),
                    tuple(sorted(plain.asks_from(program, meaning, ask))))
                functions = (meanings.leaf_at, meanings.asks_at, meanings.asks_from)
                self.assertEqual(tuple(function(program, meaning, *ask) for function in functions), expected)
            ask = (len(program) - 1, meaning[0] - 1)
            for function in functions:
                told(function, program, meaning, *ask)

    def test_calls_that_lead_to_one_ask_are_one(self):
        self.assertEqual(told(meanings.asks_at, TWIN, LINE, 0, 1), ((0, 2),))

    def test_rings(self):
        met = {True: 0, False: 0}
        for program, meaning in PAIRS:
            for ask in all_asks(program, meaning):
                ends = plain.ends(program, meaning, ask)
                met[ends] += 1
                ring = meanings.ring_from(program, meaning, *ask)
                if ends:
                    self.assertIsNone(ring)
                    continue
                self.check_ring(program, meaning, ask, ring)
            told(meanings.ring_from, program, meaning, *ask)
        self.assertGreater(min(met.values()), 100)

    def check_ring(self, program, meaning, ask, ring):
        self.assertGreater(len(ring), 0)
        self.assertEqual(len(set(ring)), len(ring))
        self.assertLessEqual(set(ring), plain.asks_from(program, meaning, ask))
        for own, after in zip(ring, ring[1:] + ring[:1]):
            self.assertIn(after, plain.asked(program, meaning, own))
        self.assertIs(told(meanings.is_ring, program, meaning, *ask, ring), True)
        self.assertIs(meanings.is_ring(program, meaning, *ask, ring[1:] + ring[:1]), True)
        self.assertIs(meanings.is_ring(program, meaning, *ask, ring + ring), False)

    def test_is_ring_by_chance(self):
        dice = chance(83)
        for program, meaning in PAIRS:
            asks = all_asks(program, meaning)
            start = dice.choice(asks)
            for _ in range(20):
                thing = tuple(dice.choice(asks) for _ in range(dice.randint(0, 3)))
                expected = (
                    0 < len(thing) == len(set(thing)) and set(thing) <= plain.asks_from(program, meaning, start)
                    and all(after in plain.asked(program, meaning, own) for own, after in zip(thing, thing[1:] + thing[:1])))
                self.assertIs(meanings.is_ring(program, meaning, *start, thing), expected)

    def test_what_is_nearly_a_ring(self):
        ring = ((0, 1), (0, 0))
        self.assertIs(told(meanings.is_ring, WALK, LOOP, 0, 1, ring), True)
        for thing in variants(ring):
            self.assertIs(meanings.is_ring(WALK, LOOP, 0, 1, thing), False, thing)
        for thing in ((), ring[:1], ring + ((0, 2),), ring * 2, ((0, 1, 0), (0, 0)), ((0,),), (0, 1), ((0, 2),), ((1, 0),)):
            self.assertIs(meanings.is_ring(WALK, LOOP, 0, 1, thing), False, thing)
        self.assertIs(meanings.is_ring(WALK, LOOP, 0, 2, ring), False)
        self.assertIs(meanings.is_ring(WALK, (1, ((0,),), ((False,),)), 0, 0, ((0, 0),)), True)


class AnswersTest(unittest.TestCase):

    def test_answers(self):
        met = 0
        for program, meaning in PAIRS:
            for ask in all_asks(program, meaning):
                if not plain.ends(program, meaning, ask):
                    self.assertRaises(CanNot, meanings.answer, program, meaning, *ask)
                    self.assertRaises(CanNot, meanings.answer_parts, program, meaning, *ask)
                    continue
                many = plain.parts(program, meaning, plain.leaf_of(program, meaning, ask), ask[1])
                self.assertEqual(meanings.answer_parts(program, meaning, *ask), many)
                if many <= 2000:
                    met += 1
                    self.assertEqual(meanings.answer(program, meaning, *ask), plain.value(program, meaning, ask))
        self.assertGreater(met, 200)

    def test_in_all_ways(self):
        for program, meaning in PAIRS[:60]:
            for function in (meanings.answer, meanings.answer_parts):
                try:
                    told(function, program, meaning, 0, 0)
                except (CanNot, TooMuch):
                    self.assertFalse(function is meanings.answer_parts and plain.ends(program, meaning, (0, 0)))

    def test_just_so_many_parts(self):
        for many in (1, 2, 3, 1998, 1999, 2000):
            meaning = line_of_parts(many)
            self.assertEqual(told(meanings.answer_parts, GROWING, meaning, 0, 0), many)
            value = meanings.answer(GROWING, meaning, 0, 0)
            self.assertEqual(value, plain.value(GROWING, meaning, (0, 0)))
            self.assertIs(meanings.is_value(value), True)
        for many in (2001, 2002, 4000):
            self.assertEqual(meanings.answer_parts(GROWING, line_of_parts(many), 0, 0), many)
            self.assertRaises(TooMuch, told, meanings.answer, GROWING, line_of_parts(many), 0, 0)

    def test_just_so_many_makings_within(self):
        for many, choices in ((44, (True,) * 22), (45, (True,) * 22 + (False,)), (45, (False,) + (True,) * 22)):
            value = told(meanings.answer, DEEPER, line_with(choices), 0, 0)
            self.assertEqual(str(value).count("make"), many)
        for choices in ((True,) * 23, (True,) * 22 + (False,) * 2):
            self.assertRaises(TooMuch, told, meanings.answer, DEEPER, line_with(choices), 0, 0)
            self.assertEqual(meanings.answer_parts(DEEPER, line_with(choices), 0, 0), 47)

    def test_the_deepest_place_counts(self):
        leaf = ("make", 0, (("at", ()), ("make", 1, (("call", 0, (0,)), ("at", ()))), ("at", ())))
        program = (("ask", 0, END, ("leaf", leaf)),)
        for many, last in ((22, ("at", ())), (22, ("make", 0, (("at", ()),)))):
            ending = (("ask", 0, ("leaf", last), program[0][3]),)
            value = told(meanings.answer, ending, line_with((False,) * many), 0, 0)
            self.assertEqual(value, plain.value(ending, line_with((False,) * many), (0, 0)))
        self.assertRaises(TooMuch, told, meanings.answer, program, line_with((False,) * 23), 0, 0)

    def test_makings_beside_one_another_are_not_within(self):
        program = (
            ("leaf", ("make", 0, (("call", 1, ()),) * 7)),
            ("ask", 0, END, ("leaf", ("make", 0, (("call", 1, (0,)),) * 2))))
        self.assertEqual(meanings.answer_parts(program, line_with((False,) * 6), 0, 0), 890)
        self.assertEqual(str(meanings.answer(program, line_with((False,) * 6), 0, 0)).count("make"), 442)

    def test_very_many_parts(self):
        chain = line_with((True,) * 39)
        self.assertEqual(told(meanings.answer_parts, GROWING, chain, 0, 0), 2 ** 40 - 1)
        self.assertRaises(TooMuch, meanings.answer, GROWING, chain, 0, 0)
        call = ("make", 0, (("call", 0, (0,)),) * 7)
        program = (("ask", 0, END, ("leaf", call)),)
        self.assertEqual(meanings.answer_parts(program, chain, 0, 0), (7 ** 40 - 1) // 6)

    def test_errors_in_their_order(self):
        endless = (1, ((0,),), ((False,),))
        for function in (meanings.answer, meanings.answer_parts):
            self.assertRaises(CanNot, told, function, WALK, endless, 0, 0)
            self.assertRaises(CanNot, told, function, WALK, LOOP, 0, 1)
        # From 0 it does not end, and from 1 it has too many parts.
        back = ("leaf", ("make", 0, (("call", 0, (0,)), ("call", 0, (1,)))))
        program = (GROWING[0][:3] + (GROWING[0][3][:3] + (back,),),)
        many, steps, tests = line_with((False,) + (True,) * 20)
        meaning = (many, steps + ((0,) * many,), tests)
        self.assertRaises(CanNot, told, meanings.answer, program, meaning, 0, 0)
        self.assertRaises(TooMuch, told, meanings.answer, program, meaning, 0, 1)

    def test_parted_things(self):
        dice, met = chance(84), {}
        for program, meaning in PAIRS:
            for other in (program, dice.choice(PAIRS)[0]):
                apart = []
                for x in range(meaning[0]):
                    values = []
                    for own in (program, other):
                        ends = plain.ends(own, meaning, (0, x))
                        too_great = ends and plain.parts(own, meaning, plain.leaf_of(own, meaning, (0, x)), x) > 9999
                        self.assertFalse(too_great)
                        values.append(plain.value(own, meaning, (0, x)) if ends else None)
                    if values[0] != values[1]:
                        apart.append(x)
                self.assertEqual(told(meanings.parted_things, program, other, meaning), tuple(apart))
                met[bool(apart)] = met.get(bool(apart), 0) + 1
        self.assertGreater(min(met.values()), 50)

    def test_parted_things_of_very_great_answers(self):
        chain = line_with((True,) * 39)
        other = (("ask", 0, ("leaf", ("make", 0, (("at", ()),))), GROWING[0][3]),)
        self.assertEqual(told(meanings.parted_things, GROWING, other, chain), tuple(range(40)))
        in_turn = (growing(0, 1), growing(2, 0))
        self.assertEqual(told(meanings.parted_things, GROWING, in_turn, chain[:2] + (chain[2] * 2,)), ())
        # Thing 5 is bent for NAME 1 alone, to which it comes from 0, 2 and 4.
        bent = (chain[2][0], (True,) * 5 + (False,) + (True,) * 34)
        self.assertEqual(told(meanings.parted_things, GROWING, in_turn, chain[:2] + (chain[2] + bent,)), (0, 2, 4))


class ManyCallsTest(unittest.TestCase):
    """What is read once of a PROGRAM and a MEANING, for many ASKS, is what each ASK alone comes to."""

    def test_along_a_line(self):
        line = tuple(min(x + 1, 39) for x in range(40))
        far = (40, (line,), ((False,) * 38 + (True, True),))
        one = ("make", 1, (("make", 1, (("call", 0, (0,)),)),))
        for start in (16, 17, 38):
            value = ("thing", 38)
            for _ in range(2 * (38 - start)):
                value = ("make", 1, (value,))
            self.assertEqual(told(meanings.answer, (("ask", 0, END, ("leaf", one)),), far, 0, start), value)
        self.assertRaises(TooMuch, told, meanings.answer, (("ask", 0, END, ("leaf", one)),), far, 0, 15)
        other = (TWIN[0][:3] + (("leaf", ("make", 2) + TWIN[0][3][1][2:]),),)
        self.assertEqual(told(meanings.parted_things, TWIN, other, far), tuple(range(38)))
        self.assertEqual(told(meanings.parted_things, TWIN, TWIN, far), ())
        parts = [1, 1]
        while len(parts) < 40:
            parts.append(1 + parts[-1] + parts[-2])
        for start in (0, 20, 37, 38, 39):
            self.assertEqual(told(meanings.answer_parts, TWIN, far, 0, start), parts[39 - start])

    def test_words_of_each_length(self):
        step, back = (1, 2, 3, 4, 5, 5), (0, 0, 1, 2, 3, 4)
        sense = (6, (step, back), ((False, False, False, False, False, True),))
        words = ((), (0,), (1,), (0, 0), (0, 1), (1, 0), (0, 0, 1), (1, 1, 0), (0, 0, 0, 0), (0, 1, 0, 0), (1, 1, 1, 0))
        calls = tuple(("call", 1, word) for word in words)
        program = (
            ("ask", 0, END, ("leaf", ("make", 0, tuple(("at", word) for word in words) + (("make", 1, calls),)))),
            ("leaf", ("make", 2, (("at", (0,)), ("at", ())))))
        for start in range(6):
            self.assertEqual(told(meanings.answer, program, sense, 0, start), plain.value(program, sense, (0, start)))
            asked = tuple(sorted({(1, plain.led(sense, start, word)) for word in words})) if start < 5 else ()
            self.assertEqual(told(meanings.asks_at, program, sense, 0, start), asked)

    def test_lists_within_tuples(self):
        dice = chance(85)
        for program, meaning in PAIRS:
            other = dice.choice(PAIRS)[0]
            for function in ASKING + (meanings.parted_things, meanings.is_for, meanings.led_thing, meanings.is_ring):
                args = (program, meaning, dice.randrange(len(program)), dice.randrange(meaning[0]))
                if function in (meanings.parted_things, meanings.is_for):
                    args = (program, other, meaning) if function is meanings.parted_things else (meaning, program)
                elif function is meanings.led_thing:
                    args = (meaning, args[3], word_by_chance(dice, 4))
                rest = ()
                if function is meanings.is_ring:
                    rest = (meanings.ring_from(*args) or ((0, 0),),)
                expected = outcome(function, args + rest, {})
                for _ in range(3):
                    self.assertEqual(outcome(function, tuple(mixed(dice, own) for own in args) + rest, {}), expected)

    def test_terms_that_nest_very_deep(self):
        line = LINE[:2] + (LINE[2] * 2,)
        for kind in (tuple, list):
            program = deep_program(5000, kind)
            self.assertIs(meanings.is_for(LINE, program), True)
            self.assertIs(meanings.is_for((3, (), LINE[2]), program), False)
            self.assertEqual(meanings.leaf_at(program, LINE, 0, 1), 1)
            self.assertEqual(meanings.asks_at(program, LINE, 0, 1), ((0, 2),))
            self.assertEqual(meanings.asks_from(program, LINE, 0, 1), ((0, 1), (0, 2)))
            self.assertEqual(meanings.answer_parts(program, line, 0, 0), 10002)
            self.assertEqual(meanings.answer(program, line, 0, 2), ("make", 2, (("thing", 2),)))
            self.assertRaises(TooMuch, meanings.answer, program, LINE, 0, 1)
            self.assertRaises(CanNot, meanings.answer, program, LOOP, 0, 1)
            self.assertEqual(meanings.parted_things(program, deep_program(5000), LINE), ())
            self.assertEqual(meanings.parted_things(program, deep_program(4999), LINE), (0, 1))
            self.assertIsNone(meanings.ring_from(program, LINE, 0, 0))
            self.assertIs(meanings.is_ring(program, LOOP, 0, 0, ((0, 1), (0, 0))), True)


class ErrorsTest(unittest.TestCase):

    def test_unfit_then_name_then_start(self):
        for function in ASKING + (meanings.is_ring,):
            rest = (None,) if function is meanings.is_ring else ()
            for name, start in ((0, 0), (1, 3), (-1, 0), (0, -1)):
                for meaning in ((3, (), LINE[2]), (3, LINE[1], ()), (3, (), ())):
                    self.assertRaises(Unfit, told, function, WALK, meaning, name, start, *rest)
            for name, start, place in ((1, 0, 1), (1, 3, 1), (-1, 3, -1), (0, 3, 3), (0, -1, -1)):
                with self.assertRaises(NoPlace) as caught:
                    told(function, WALK, LINE, name, start, *rest)
                self.assertEqual(caught.exception.place, place)

    def test_parted_things_asks_for_a_meaning_for_both(self):
        other = (("ask", 1, END, ("leaf", ("at", (1,)))),)
        for meaning in (LINE, LINE[:2] + (LINE[2] * 2,), (3, LINE[1] * 2, LINE[2])):
            self.assertRaises(Unfit, told, meanings.parted_things, WALK, other, meaning)
            self.assertRaises(Unfit, told, meanings.parted_things, other, WALK, meaning)
        both = (3, LINE[1] * 2, LINE[2] * 2)
        self.assertEqual(told(meanings.parted_things, other, other, both), ())


if __name__ == "__main__":
    unittest.main()
