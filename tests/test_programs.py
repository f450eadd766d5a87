"""unwound.programs [6], and what is a PROGRAM [3]."""

import itertools
import unittest

from tests import plain
from tests.support import chance, nested, odd_things, rules_by_chance, told, variants
from unwound import programs
from unwound.errors import Endless, NoPlace, Ring, Unfit

END = ("leaf", ("at", ()))
BOTH = (
    ("ask", 0, END, ("leaf", ("make", 0, (("call", 0, (0,)), ("call", 1, ()))))),
    ("ask", 1, ("leaf", ("call", 1, (1, 1))), END))
MAZE = ("ask", 4, ("ask", 2, END, ("ask", 7, END, END)), ("ask", 5, ("ask", 9, END, END), END))


def calling(name, word=()):
    return "leaf", ("call", name, word)


def all_rules():
    """RULES by chance, PROGRAMS and others."""
    dice = chance(60)
    return [rules_by_chance(dice) for _ in range(900)]


ALL_RULES = all_rules()
PROGRAMS = [rules for rules in ALL_RULES if plain.least_ring(rules) is None and not plain.endless(rules)]


class IsProgramTest(unittest.TestCase):

    def test_by_chance(self):
        self.assertGreater(len(PROGRAMS), 150)
        self.assertGreater(len([rules for rules in PROGRAMS if len(rules) > 2]), 20)
        for rules in ALL_RULES:
            self.assertIs(programs.is_program(rules), rules in PROGRAMS, rules)
        self.assertIs(told(programs.is_program, BOTH), True)

    def test_what_is_nearly_one(self):
        for program in (BOTH, (END,), (("ask", 3, END, ("leaf", ("call", 0, (1,)))),)):
            self.assertIs(programs.is_program(program), True)
            for thing in variants(program):
                self.assertIs(programs.is_program(thing), False, thing)

    def test_forms(self):
        for thing in (
                (), (END, ()), END, (END + (0,),), (("leaf",),), (("ask", 0, END),), (("ask", 0, END, END, END),),
                (("ask", END, END),), (("leaf", ("make", 0, ())),), (("leaf", END),), (("ask", 0, ("at", ()), END),)):
            self.assertIs(programs.is_program(thing), False, thing)

    def test_a_test_stands_once_in_all_rules(self):
        self.assertIs(programs.is_program((("ask", 0, END, ("ask", 1, END, END)),)), True)
        self.assertIs(programs.is_program((("ask", 0, END, ("ask", 0, END, END)),)), False)
        self.assertIs(programs.is_program((("ask", 0, END, END), ("ask", 1, END, END))), True)
        self.assertIs(programs.is_program((("ask", 0, END, END), ("ask", 0, END, END))), False)

    def test_calls_are_of_its_names(self):
        self.assertIs(programs.is_program((calling(1), END)), True)
        self.assertIs(programs.is_program((calling(2), END)), False)
        self.assertIs(programs.is_program((("leaf", ("make", 0, (("make", 0, (("call", 9, (1,)),)),))), END)), False)

    def test_rings_without_a_step(self):
        self.assertIs(programs.is_program((("ask", 0, END, calling(0)),)), False)
        self.assertIs(programs.is_program((("ask", 0, END, calling(0, (0,))),)), True)
        self.assertIs(programs.is_program((("ask", 0, END, calling(1)), ("ask", 1, END, calling(0)))), False)
        self.assertIs(programs.is_program((("ask", 0, END, calling(1)), ("ask", 1, END, calling(0, (3,))))), True)

    def test_names_that_can_not_end(self):
        self.assertIs(programs.is_program((calling(0, (0,)),)), False)
        self.assertIs(programs.is_program((END, calling(1, (0,)))), False)
        self.assertIs(programs.is_program((calling(1), END)), True)

    def test_other_things(self):
        for thing in odd_things():
            self.assertIs(programs.is_program(thing), False, repr(thing)[:80])
            self.assertIs(programs.is_program(thing=thing), False)

    def test_a_hundred_levels(self):
        tests = iter(range(1000))
        deep = nested(90, lambda value: ("ask", next(tests), END, value or END))
        self.assertIs(programs.is_program((deep,)), True)
        self.assertIs(programs.is_program((deep, ("ask", 1000, deep, END))), False)
        makings = nested(47, lambda value: ("make", 0, (value or ("call", 0, (0,)),)))
        self.assertIs(programs.is_program((("ask", 0, END, ("leaf", makings)),)), True)
        self.assertIs(programs.is_program((("leaf", makings),)), False)

    def test_far_beyond_the_bounds(self):
        many = 3000
        chain = tuple(calling(name + 1) for name in range(many)) + (END,)
        self.assertIs(programs.is_program(chain), True)
        self.assertIs(programs.is_program(chain[:-1]), False)
        self.assertIs(programs.is_program(chain[:-1] + (calling(0),)), False)
        self.assertIs(programs.is_program(chain[:-1] + (calling(0, (5,) * 9),)), False)
        asks = tuple(("ask", name, END, calling(0, (name,) * 70)) for name in range(1, many))
        self.assertIs(programs.is_program((END,) + asks), True)
        self.assertIs(programs.is_program((END,) + asks + (("ask", 7, END, END),)), False)


class CheckedTest(unittest.TestCase):

    def test_by_chance(self):
        rings, endless = 0, 0
        for rules in ALL_RULES:
            ring = plain.least_ring(rules)
            if ring is not None:
                rings += 1
                with self.assertRaises(Ring) as caught:
                    told(programs.checked, rules)
                self.assertEqual(caught.exception.names, ring)
            elif plain.endless(rules):
                endless += 1
                with self.assertRaises(Endless) as caught:
                    told(programs.checked, rules)
                self.assertEqual(caught.exception.names, plain.endless(rules))
            else:
                self.assertEqual(told(programs.checked, rules), rules)
        self.assertGreater(min(rings, endless), 50)

    def test_all_graphs_of_three_names(self):
        pairs = list(itertools.product(range(3), repeat=2))
        for chosen in itertools.product((False, True), repeat=9):
            nexts = [[at for (own, at), on in zip(pairs, chosen) if on and own == name] for name in range(3)]
            rules = tuple(("leaf", ("make", 0, (("at", ()),) + tuple(("call", at, ()) for at in led_to)))
                          for led_to in nexts)
            ring = plain.least_ring(rules)
            if ring is None:
                self.assertEqual(programs.checked(rules), rules)
                continue
            with self.assertRaises(Ring) as caught:
                programs.checked(rules)
            self.assertEqual(caught.exception.names, ring)

    def test_the_shortest_ring_then_the_least(self):
        rules = (calling(1), calling(2), ("leaf", ("make", 0, (("call", 0, ()), ("call", 3, ())))), calling(2))
        with self.assertRaises(Ring) as caught:
            programs.checked(rules)
        self.assertEqual(caught.exception.names, (2, 3))

    def test_a_ring_comes_ahead_of_names_without_end(self):
        with self.assertRaises(Ring) as caught:
            programs.checked((calling(0, (0,)), calling(1)))
        self.assertEqual(caught.exception.names, (1,))

    def test_all_names_without_end(self):
        rules = (calling(1, (0,)), calling(0, (0,)), END, ("ask", 0, calling(0), calling(3, (1,))), calling(2))
        with self.assertRaises(Endless) as caught:
            programs.checked(rules)
        self.assertEqual(caught.exception.names, (0, 1, 3))


class RulesTest(unittest.TestCase):

    def test_leaves_and_tests(self):
        for rules in ALL_RULES[:200]:
            for rule in rules:
                self.assertEqual(told(programs.leaves_of, rule), tuple(plain.leaves(rule)))
                self.assertEqual(told(programs.tests_of, rule), tuple(sorted(set(plain.tests(rule)))))

    def test_ways(self):
        for rule in [MAZE] + [rule for rules in ALL_RULES[:200] for rule in rules]:
            for number, way in enumerate(self.plain_ways(rule)):
                self.assertEqual(told(programs.way_to, rule, number), way)
            many = len(plain.leaves(rule))
            for number in (-1, many, many + 5):
                with self.assertRaises(NoPlace) as caught:
                    told(programs.way_to, rule, number)
                self.assertEqual(caught.exception.place, number)

    def plain_ways(self, rule):
        if rule[0] == "leaf":
            return [()]
        yes = [((rule[1], True),) + way for way in self.plain_ways(rule[2])]
        return yes + [((rule[1], False),) + way for way in self.plain_ways(rule[3])]

    def test_leaf_by(self):
        for rule in [MAZE] + [rule for rules in ALL_RULES[:100] for rule in rules]:
            tests = sorted(set(plain.tests(rule)))
            for chosen in itertools.product((False, True), repeat=len(tests)):
                held = [test for test, holds in zip(tests, chosen) if holds]
                holding = [test in held for test in range(20)]
                number = plain.leaf_number(rule, (1, (), tuple((holds,) for holds in holding)), 0)
                self.assertEqual(programs.leaf_by(rule, tuple(held)), number)
                self.assertEqual(programs.leaf_by(rule, tuple(held + [30, 31])), number)
        self.assertEqual(told(programs.leaf_by, MAZE, (2, 5, 7)), 4)
        self.assertEqual(told(programs.leaf_by, MAZE, (4, 7)), 1)
        self.assertEqual(told(programs.leaf_by, END, (0, 1)), 0)

    def test_the_way_comes_to_its_leaf(self):
        for number in range(6):
            held = [test for test, yes in programs.way_to(MAZE, number) if yes]
            self.assertEqual(programs.leaf_by(MAZE, sorted(held)), number)


class NamesTest(unittest.TestCase):

    def test_by_chance(self):
        for program in PROGRAMS:
            names = range(len(program))
            self.assertEqual(told(programs.reached, program), plain.reached(program))
            self.assertEqual(told(programs.components, program), plain.components(program))
            self.assertEqual(told(programs.still_order, program), plain.still_order(program))
            for name in names:
                self.assertEqual(told(programs.called, program, name), tuple(sorted(plain.called(program, name))))
                self.assertEqual(told(programs.component_of, program, name), plain.component(program, name))
                self.assertEqual(told(programs.own_calls, program, name), plain.own_calls(program, name))
                self.assertEqual(told(programs.kind_of, program, name), plain.kind(program, name))
                self.assertIs(told(programs.is_plain, program, name), plain.plain_wide(program, name))

    def test_the_guarantees(self):
        for program in PROGRAMS:
            order = programs.components(program)
            self.assertEqual(sorted(name for own in order for name in own), list(range(len(program))))
            for place, own in enumerate(order):
                ahead = {name for other in order[:place + 1] for name in other}
                self.assertTrue(all(plain.called(program, name) <= ahead for name in own))
            at_once = programs.still_order(program)
            for place, name in enumerate(at_once):
                self.assertLessEqual(plain.called_at_once(program, name), set(at_once[:place]))

    def test_kinds(self):
        two = ("make", 0, (("call", 0, (0,)), ("call", 0, (1,))))
        like = ("make", 0, (("call", 0, (0,)), ("call", 0, (0,))))
        on = ("call", 0, (0,))
        for leaves, kind, is_plain in (
                ((("at", ()),), "still", False), ((on, ("at", ())), "path", False), ((like, ("at", ())), "path", False),
                ((on, ("call", 0, (1,)), ("at", ())), "path", False), ((two, ("at", ())), "wide", True),
                ((two, on, ("at", ())), "wide", False), ((two, two, ("at", ())), "wide", False)):
            rule = ("leaf", leaves[-1])
            for test, leaf in enumerate(leaves[:-1]):
                rule = ("ask", test, ("leaf", leaf), rule)
            self.assertEqual(told(programs.kind_of, (rule,), 0), kind)
            self.assertIs(told(programs.is_plain, (rule,), 0), is_plain)

    def test_components_take_the_least_name_that_is_free(self):
        program = (calling(3), END, calling(1), END, calling(1))
        self.assertEqual(told(programs.components, program), ((1,), (2,), (3,), (0,), (4,)))
        ring = (("ask", 0, END, calling(2, (0,))), END, ("ask", 1, END, calling(0)))
        self.assertEqual(told(programs.components, ring), ((0, 2), (1,)))
        self.assertEqual(told(programs.still_order, ring), (0, 1, 2))

    def test_more_names_than_a_program_has_as_a_rule(self):
        many = ("leaf", ("make", 0, tuple(("call", name, ()) for name in (16, 8, 1, 9, 3))))
        program = (many,) + (END,) * 16
        self.assertEqual(told(programs.called, program, 0), (1, 3, 8, 9, 16))
        self.assertEqual(told(programs.reached, program), (0, 1, 3, 8, 9, 16))
        at_once = [0, 1, 9, 17, 8]
        ring = tuple(calling(at_once[(at_once.index(name) + 1) % 5]) if name in at_once else END for name in range(18))
        with self.assertRaises(Ring) as caught:
            told(programs.checked, ring)
        self.assertEqual(caught.exception.names, (0, 1, 9, 17, 8))
        fork = (("leaf", ("make", 0, (("call", 8, ()), ("call", 1, ())))), calling(0)) + (END,) * 6 + (calling(0),)
        with self.assertRaises(Ring) as caught:
            told(programs.checked, fork)
        self.assertEqual(caught.exception.names, (0, 1))

    def test_reached_part(self):
        for program in PROGRAMS:
            part = told(programs.reached_part, program)
            names = plain.reached(program)
            self.assertEqual(len(part), len(names))
            self.assertIs(programs.is_program(part), True)
            rest = [name for name in range(len(program)) if name not in names]
            anew = programs.renamed(program, tuple((list(names) + rest).index(name) for name in range(len(program))))
            self.assertEqual(part, anew[:len(names)])

    def test_renamed_there_and_back(self):
        dice = chance(61)
        for program in PROGRAMS:
            names = list(range(len(program)))
            dice.shuffle(names)
            back = tuple(names.index(name) for name in range(len(program)))
            anew = told(programs.renamed, program, tuple(names))
            self.assertIs(programs.is_program(anew), True)
            self.assertEqual(programs.renamed(anew, back), program)
            for name in range(len(program)):
                self.assertEqual(plain.called(anew, names[name]), {names[other] for other in plain.called(program, name)})
                self.assertEqual(plain.tests(anew[names[name]]), plain.tests(program[name]))
            self.assertEqual(programs.renamed(program, tuple(range(len(program)))), program)

    def test_renamed_of_three(self):
        program = (calling(1), ("ask", 0, calling(2, (0,)), END), ("leaf", ("make", 0, (("call", 1, ()), ("at", (1,))))))
        self.assertEqual(
            told(programs.renamed, program, (2, 0, 1)),
            (("ask", 0, calling(1, (0,)), END), ("leaf", ("make", 0, (("call", 0, ()), ("at", (1,))))), calling(0)))

    def test_renamed_by_what_is_no_order_of_all_names(self):
        for names in ((), (0,), (0, 0), (1, 1), (0, 2), (1, 2), (0, 1, 2), (-1, 0)):
            self.assertRaises(Unfit, told, programs.renamed, BOTH, names)

    def test_names_that_are_none(self):
        asking = (programs.called, programs.component_of, programs.own_calls, programs.kind_of, programs.is_plain)
        for function in asking:
            for name in (2, 10 ** 9, -1, -2):
                with self.assertRaises(NoPlace) as caught:
                    told(function, BOTH, name)
                self.assertEqual(caught.exception.place, name)


if __name__ == "__main__":
    unittest.main()
