"""unwound.alike [18]."""

import itertools
import unittest

from tests import plain
from tests.support import (
    chance, deep_program, meaning_by_chance, mixed, odd_things, outcome, rules_by_chance, told, variants, word_by_chance)
from unwound import alike
from unwound.errors import CanNot, TooMuch, Unfit
from unwound.meanings import answer_parts, is_for, is_meaning, parted_things
from unwound.programs import is_program, renamed
from unwound.terms import depth, led

AT, END = ("at", ()), ("leaf", ("make", 2, (("at", ()),)))
BACK = ("leaf", ("make", 3, (("at", (0,)),)))
ONE = (
    ("ask", 0, END, ("leaf", ("make", 1, (("call", 1, (0,)),)))),
    ("ask", 1, BACK, ("leaf", ("make", 4, (("call", 0, (1,)), ("call", 1, (0,)))))))
THIRD = (ONE[0], ("ask", 1, BACK, ("leaf", ("make", 4, (("call", 0, (1,)), ("call", 0, (0,)))))))
SHORT = (("ask", 0, END, ("leaf", ("call", 1, (0,)))), ("leaf", ("make", 1, (("call", 0, (1,)),))))


def term_of(dice, names, levels, calls=True):
    """A TERM that calls NAMES below names."""
    kind = dice.choice(("at", "call", "make"))
    if kind == "make" and levels:
        return "make", dice.randrange(3), tuple(term_of(dice, names, levels - 1, calls) for _ in range(dice.randint(1, 3)))
    if kind == "call" and calls:
        return "call", dice.randrange(names), word_by_chance(dice, 2)
    return "at", word_by_chance(dice, 2)


def rule_of(leaves, tests, dice):
    """A RULE with these leaves."""
    if len(leaves) == 1:
        return "leaf", leaves[0]
    many = dice.randint(1, len(leaves) - 1)
    return "ask", tests.pop(), rule_of(leaves[:many], tests, dice), rule_of(leaves[many:], tests, dice)


def marked_by_chance(dice, most=3):
    """A PROGRAM that is marked, if it is a PROGRAM."""
    names, tests, rules = dice.randint(1, most), dice.sample(range(9), 9), []
    for _ in range(names):
        makers = dice.sample(range(5), dice.randint(2, 4 if names < 3 else 3))
        leaves = [
            ("make", maker, tuple(term_of(dice, names, 1, number > 0) for _ in range(dice.randint(1, 3))))
            for number, maker in enumerate(makers)]
        dice.shuffle(leaves)
        rules.append(rule_of(leaves, tests, dice))
    return tuple(rules)


def spots(value):
    """Pairs of a way to each part of value, and of this part."""
    yield (), value
    if isinstance(value, tuple):
        for place, part in enumerate(value):
            for way, own in spots(part):
                yield (place,) + way, own


def put_at(value, way, part):
    """value with part at the end of way."""
    if not way:
        return part
    return value[:way[0]] + (put_at(value[way[0]], way[1:], part),) + value[way[0] + 1:]


def bent(dice, program):
    """program, other than it is in one place; maybe no PROGRAM."""
    way, part = dice.choice(list(spots(program)))
    if isinstance(part, int):
        return put_at(program, way, dice.randrange(5))
    if isinstance(part, tuple) and part and part[0] == "ask":
        return put_at(program, way, dice.choice((part[:2] + (part[3], part[2]), part[2], part[3])))
    if isinstance(part, tuple) and part and part[0] in ("at", "call", "make"):
        return put_at(program, way, term_of(dice, len(program), 1))
    if isinstance(part, tuple) and all(isinstance(step, int) for step in part):
        return put_at(program, way, word_by_chance(dice, 2))
    return program


def pairs_by_chance(seeds):
    """Pairs of marked PROGRAMS: with NAMES in another order, bent in one place, or quite unlike."""
    for seed in seeds:
        dice = chance(seed)
        one = marked_by_chance(dice)
        if not is_program(one) or not plain_marked(one):
            continue
        names = list(range(1, len(one)))
        dice.shuffle(names)
        other = renamed(one, (0, *names))
        for _ in range(dice.choice((0, 1, 1, 1, 2, 3))):
            other = bent(dice, other)
        if seed % 10 == 0:
            other = marked_by_chance(dice)
        if is_program(other) and plain_marked(other):
            yield one, other


def plain_marked(program):
    """Whether program is marked."""
    for name in plain.reached(program):
        leaves = plain.leaves(program[name])
        if any(leaf[0] != "make" for leaf in leaves) or len({leaf[1] for leaf in leaves}) < len(leaves):
            return False
        if any(len(plain.leaves(program[called])) < 2 for called in plain.called(program, name)):
            return False
    return True


def matched(one, other):
    """The pairs of NAMES whose calls are matched in two CHOICES or TERMS; None if these do not match at all."""
    if one[0] != other[0]:
        return None
    if one[0] == "at":
        return set() if one == other else None
    if one[0] == "call":
        return {(one[1], other[1])} if one[2] == other[2] else None
    if one[0] != "leaf" and one[1] != other[1]:
        return None
    parts = (one[1:], other[1:]) if one[0] == "leaf" else (one[2:], other[2:]) if one[0] == "ask" else (one[2], other[2])
    found = [matched(*pair) for pair in zip(*parts)]
    return None if None in found or len(parts[0]) != len(parts[1]) else set().union(*found)


def all_splits(one, other, row=((0, 0),)):
    """All SPLITS that begin with row."""
    afters = matched(one[row[-1][0]], other[row[-1][1]])
    if afters is None:
        return [row]
    return [split for after in afters - set(row) for split in all_splits(one, other, row + (after,))]


def all_sets_of_pairs(one, other):
    """All PAIRS."""
    pairs = list(itertools.product(range(len(one)), range(len(other))))
    for many in range(len(pairs) + 1):
        for own in itertools.combinations(pairs, many):
            found = [matched(one[name], other[after]) for name, after in own]
            if (0, 0) in own and None not in found and set().union(*found) <= set(own):
                yield own


def plain_parted(one, other, meaning, x):
    """Whether x is one of parted_things."""
    ends = [plain.ends(own, meaning, (0, x)) for own in (one, other)]
    if ends != [True, True]:
        return True in ends
    return plain.value(one, meaning, (0, x)) != plain.value(other, meaning, (0, x))


PAIRS = list(pairs_by_chance(range(1500)))


class MarkedTest(unittest.TestCase):

    def test_by_chance(self):
        counted = {True: 0, False: 0}
        for seed in range(900):
            dice = chance(seed)
            program = bent(dice, marked_by_chance(dice)) if seed % 3 else rules_by_chance(dice)
            if is_program(program):
                expected = plain_marked(program)
                counted[expected] += 1
                self.assertIs(told(alike.is_marked, program), expected)
        self.assertTrue(min(counted.values()) > 100, counted)

    def test_each_condition(self):
        lone = ("leaf", ("make", 1, (AT,)))
        for program, expected in (
                ((lone,), True), ((("leaf", AT),), False), ((lone, ("leaf", AT)), True), (ONE, True), (SHORT, False),
                ((("leaf", ("make", 1, (("call", 1, ()),))), lone), False),
                ((("leaf", ("make", 1, (("call", 1, ()),))), ("ask", 0, END, lone)), True),
                ((("ask", 0, END, END),), False), ((lone, ("ask", 0, END, END)), True),
                ((("ask", 0, END, ("leaf", ("call", 0, (0,)))),), False)):
            self.assertTrue(is_program(program))
            self.assertIs(alike.is_marked(program), expected, program)


class AnewTest(unittest.TestCase):

    def test_as_met(self):
        moved = 0
        for seed in range(700):
            rules = rules_by_chance(chance(seed))
            if not is_program(rules):
                continue
            met = told(alike.as_met, rules)
            order, place = [0], 0
            while place < len(order):
                stack = [leaf for leaf in plain.leaves(rules[order[place]])]
                while stack:
                    term = stack.pop(0)
                    if term[0] == "make":
                        stack = list(term[2]) + stack
                    elif term[0] == "call" and term[1] not in order:
                        order.append(term[1])
                place += 1
            left = [name for name in range(len(rules)) if name not in order]
            names = [(order + left).index(name) for name in range(len(rules))]
            self.assertEqual(met, renamed(rules, names)[:len(order)])
            self.assertEqual(alike.as_met(met), met)
            moved += order != sorted(order)
        self.assertGreater(moved, 30)

    def test_put_in(self):
        put, many = 0, 0
        for seed in range(700):
            dice = chance(seed)
            rules = rules_by_chance(dice)
            if not is_program(rules):
                continue
            try:
                found = told(alike.put_in, rules)
            except TooMuch:
                many += 1
                self.assertGreater(max(len(self.parts(rules, leaf)) for name in plain.reached(rules)
                                       for leaf in plain.leaves(rules[name])), 60)
                continue
            self.assertTrue(is_program(found))
            self.assertEqual(plain.reached(found), tuple(range(len(found))))
            for name in range(len(found)):
                for called in plain.called(found, name):
                    self.assertEqual(found[called][0], "ask")
            self.assertEqual(found, alike.as_met(tuple(self.put(rules, rule) for rule in rules)))
            put += len(found) < len(plain.reached(rules))
            meaning = meaning_by_chance(dice, 5)
            self.assertEqual(parted_things(rules, found, meaning), ())
            self.assertEqual(parted_things(rules, alike.as_met(rules), meaning), ())
        self.assertTrue(put > 60, (put, many))

    def put(self, rules, part):
        """A RULE or TERM with the TERMS of NAMES with one leaf in it."""
        if part[0] == "call" and rules[part[1]][0] == "leaf":
            return led(self.put(rules, rules[part[1]][1]), part[2])
        if part[0] in ("at", "call"):
            return part
        if part[0] == "leaf":
            return "leaf", self.put(rules, part[1])
        if part[0] == "ask":
            return part[:2] + (self.put(rules, part[2]), self.put(rules, part[3]))
        return part[:2] + (tuple(self.put(rules, own) for own in part[2]),)

    def parts(self, rules, term):
        """The list of the parts of term as they stand, once all is put in."""
        if term[0] == "call" and rules[term[1]][0] == "leaf":
            return self.parts(rules, rules[term[1]][1])
        return [term] + ([part for own in term[2] for part in self.parts(rules, own)] if term[0] == "make" else [])

    def test_put_in_at_several_removes(self):
        # 0 has one leaf, and is called by a NAME that it calls.
        rules = (
            ("leaf", ("make", 0, (("call", 2, (0,)),))), ("leaf", ("make", 1, (("call", 3, (1,)), ("call", 3, ())))),
            ("leaf", ("make", 2, (AT, ("call", 1, (2,))))), ("ask", 0, END, ("leaf", ("call", 0, (3,)))))
        third = ("ask", 0, END, ("leaf", ("make", 0, (("make", 2, (("at", (3, 0)), ("make", 1, (
            ("call", 1, (3, 0, 2, 1)), ("call", 1, (3, 0, 2)))))),))))
        first = ("leaf", ("make", 0, (("make", 2, (("at", (0,)), ("make", 1, (
            ("call", 1, (0, 2, 1)), ("call", 1, (0, 2)))))),)))
        self.assertEqual(told(alike.put_in, rules), (first, third))

    def test_just_60_parts_and_one_more(self):
        def doubling(more):
            return (
                ("leaf", ("make", 0, (("call", 1, ()),) * 4 + (AT,) * more)), ("leaf", ("make", 1, (("call", 2, (0,)),) * 2)),
                ("leaf", ("make", 2, (AT,) * 5)))
        # 1 + 4 * (1 + 2 * (1 + 5)) + more parts.
        self.assertEqual(len(self.parts(doubling(7), doubling(7)[0][1])), 60)
        self.assertEqual(len(alike.put_in(doubling(7))), 1)
        with self.assertRaises(TooMuch):
            told(alike.put_in, doubling(8))
        # What 0 does not come to is not put in anywhere.
        self.assertEqual(alike.put_in((("leaf", AT),) + doubling(8)), (("leaf", AT),))
        in_another = (("ask", 0, END, ("leaf", ("call", 1, (0,)))), ("ask", 1, END, ("leaf", ("call", 2, ())))) + tuple(
            alike.with_names(rule, {1: 3, 2: 4}) for rule in doubling(8))
        self.assertTrue(is_program(in_another))
        with self.assertRaises(TooMuch):
            alike.put_in(in_another)
        great = ("leaf", ("make", 0, (("call", 1, ()),) * 7)),
        for name in range(2, 40):
            great += (("leaf", ("make", 0, (("call", name, ()),) * 7)),)
        with self.assertRaises(TooMuch):
            alike.put_in(great + (("leaf", AT),))


class KindsOfListsTest(unittest.TestCase):

    def test_lists_within_tuples(self):
        dice = chance(181)
        for one, other in PAIRS[:120]:
            calls = [(function, (one, other), ()) for function in (
                alike.pairs_of, alike.are_alike, alike.split_of, alike.parting)]
            calls += [(function, (one,), ()) for function in (alike.is_marked, alike.as_met, alike.put_in)]
            for function, check in (
                    (alike.pairs_of, alike.is_pairs), (alike.split_of, alike.is_split), (alike.parting, alike.is_parting)):
                kind, found, *_ = outcome(function, (one, other), {})
                calls.append((check, (one, other), (found if kind == "value" else ((0, 0),),)))
            for function, args, rest in calls:
                expected = outcome(function, args + rest, {})
                for _ in range(3):
                    own = tuple(mixed(dice, arg) for arg in args)
                    self.assertEqual(outcome(function, own + rest, {}), expected)

    def test_put_in_of_lists_within_tuples(self):
        dice = chance(182)
        for seed in range(300):
            rules = rules_by_chance(chance(seed))
            if is_program(rules):
                for function in (alike.as_met, alike.put_in, alike.is_marked):
                    expected = outcome(function, (rules,), {})
                    self.assertEqual(outcome(function, (mixed(dice, rules),), {}), expected)

    def test_terms_that_nest_very_deep(self):
        deep, deeper = deep_program(5000), deep_program(5001, list)
        for program in (deep, deep_program(5000, list)):
            self.assertIs(alike.is_marked(program), True)
            self.assertEqual(depth(alike.as_met(program)[0][3][1]), 5000)
            self.assertIs(alike.are_alike(program, deep), True)
            self.assertEqual(alike.pairs_of(program, deep), ((0, 0),))
            self.assertIs(alike.is_pairs(program, deep, ((0, 0),)), True)
            self.assertIs(alike.are_alike(program, deeper), False)
            self.assertEqual(alike.split_of(deeper, program), ((0, 0),))
            self.assertIs(alike.is_split(program, deeper, ((0, 0),)), True)
            self.assertIs(alike.is_parting(program, deeper, alike.parting(program, deeper)), True)
            self.assertRaises(TooMuch, alike.put_in, program)


class PairsTest(unittest.TestCase):

    def test_pairs_and_splits(self):
        counted = {True: 0, False: 0}
        for one, other in PAIRS:
            splits = all_splits(one, other)
            counted[not splits] += 1
            self.assertIs(alike.are_alike(one, other), not splits)
            self.assertIs(alike.as_met(one) == alike.as_met(other), not splits)
            if splits:
                expected = min(splits, key=lambda split: (len(split), split))
                self.assertEqual(alike.split_of(one, other), expected)
                with self.assertRaises(CanNot):
                    alike.pairs_of(one, other)
            else:
                with self.assertRaises(CanNot):
                    alike.split_of(one, other)
                with self.assertRaises(CanNot):
                    alike.parting(one, other)
                self.check_pairs(one, other)
        self.assertTrue(min(counted.values()) > 80, counted)

    def check_pairs(self, one, other):
        """pairs_of tells the PAIRS that lie within all others."""
        found = alike.pairs_of(one, other)
        if len(one) * len(other) < 10:
            every = list(all_sets_of_pairs(one, other))
            self.assertIn(found, every)
            self.assertTrue(all(set(found) <= set(own) for own in every))
            for own in every:
                self.assertIs(alike.is_pairs(one, other, own), True)

    def test_what_is_pairs(self):
        for one, other in PAIRS[:60]:
            every = list(all_sets_of_pairs(one, other)) if len(one) * len(other) < 7 else []
            pairs = list(itertools.product(range(len(one)), range(len(other))))
            for many in range(min(3, len(pairs)) + 1):
                for own in itertools.combinations(pairs, many):
                    if every or not alike.are_alike(one, other):
                        self.assertIs(alike.is_pairs(one, other, own), own in every)

    def test_what_is_a_split(self):
        right = 0
        for one, other in PAIRS[:150]:
            splits = all_splits(one, other)
            pairs = list(itertools.product(range(len(one)), range(len(other))))
            for many in range(1, 4 if len(pairs) < 7 else 3):
                for own in itertools.permutations(pairs, many):
                    expected = own in splits
                    right += expected
                    self.assertIs(alike.is_split(one, other, own), expected)
        self.assertGreater(right, 50)

    def test_things_that_are_nearly(self):
        pairs, split = ((0, 0), (1, 1)), ((0, 0), (1, 1), (1, 0))
        self.assertIs(alike.is_pairs(ONE, ONE, pairs), True)
        self.assertIs(alike.is_split(ONE, THIRD, split), True)
        for thing in itertools.chain(variants(pairs), odd_things()):
            self.assertIs(alike.is_pairs(ONE, ONE, thing), False, thing)
        for thing in itertools.chain(variants(split), odd_things()):
            self.assertIs(alike.is_split(ONE, THIRD, thing), False, thing)
        for thing in (pairs[::-1], pairs + pairs[1:], pairs[:1], pairs[1:], (), pairs + ((2, 2),), pairs + ((0, 2),)):
            self.assertIs(alike.is_pairs(ONE, ONE, thing), False, thing)
        for thing in (split[:2], split[1:], split + ((1, 1),), split + ((0, 1),), split[:1] + split[2:], (), split[:1] * 2 + split[1:]):
            self.assertIs(alike.is_split(ONE, THIRD, thing), False, thing)
        # NAMES that are none, on one side alone.
        for thing in (pairs + ((2, 0),), pairs + ((2, 1),), pairs + ((9, 1),), (pairs[0], (0, 2), pairs[1]), pairs + ((1, 2),), pairs + ((1, 9),)):
            self.assertIs(alike.is_pairs(ONE, ONE, thing), False, thing)
        for thing in (split[:1] + ((2, 0),), split[:1] + ((0, 2),), split[:2] + ((2, 0),), split[:2] + ((1, 2),), ((2, 0),), ((0, 0), (9, 9))):
            self.assertIs(alike.is_split(ONE, THIRD, thing), False, thing)
        self.assertIs(alike.is_pairs(ONE, THIRD, pairs), False)
        self.assertIs(alike.is_split(ONE, ONE, pairs), False)

    def test_unfit_ahead_of_all_else(self):
        for one, other in ((ONE, SHORT), (SHORT, ONE), (SHORT, SHORT)):
            for function in (alike.pairs_of, alike.are_alike, alike.split_of, alike.parting):
                with self.assertRaises(Unfit):
                    told(function, one, other)
            for function in (alike.is_pairs, alike.is_split):
                for thing in (None, ((0, 0),), ()):
                    with self.assertRaises(Unfit):
                        told(function, one, other, thing)
        # What 0 does not come to may be as it will.
        self.assertIs(alike.are_alike(ONE, ONE + (("leaf", AT),)), True)

    def test_in_all_ways(self):
        for function in (alike.pairs_of, alike.are_alike):
            told(function, ONE, ONE)
        for function in (alike.are_alike, alike.split_of, alike.parting):
            told(function, ONE, THIRD)
        told(alike.is_pairs, ONE, ONE, ((0, 0), (1, 1)))
        told(alike.is_split, ONE, THIRD, ((0, 0), (1, 1), (1, 0)))
        told(alike.is_parting, ONE, THIRD, alike.parting(ONE, THIRD))


class PartingTest(unittest.TestCase):

    def test_partings(self):
        many = 0
        for one, other in PAIRS:
            if alike.are_alike(one, other):
                for seed in range(3):
                    self.assertEqual(parted_things(one, other, meaning_by_chance(chance(seed), 6, 5)), ())
                continue
            many += 1
            for first, second in ((one, other), (other, one)):
                meaning, x = alike.parting(first, second)
                self.assertTrue(is_meaning(meaning) and is_for(meaning, first) and is_for(meaning, second))
                self.assertIn(x, parted_things(first, second, meaning), (first, second))
                self.assertIs(alike.is_parting(first, second, (meaning, x)), True)
                if all(not plain.ends(own, meaning, (0, x)) or answer_parts(own, meaning, 0, x) < 500 for own in (one, other)):
                    self.assertTrue(plain_parted(first, second, meaning, x))
        self.assertGreater(many, 200)

    def test_each_way_to_be_unlike(self):
        def made(term, test=1):
            called = ("ask", 7, ("leaf", ("make", 5, (AT,))), ("leaf", ("make", 6, (("call", 1, (1,)),))))
            return (("ask", test, END, ("leaf", ("make", 1, (term, AT)))), called, ("ask", 8) + called[2:])
        call, made_five, made_six = ("call", 1, ()), ("make", 5, (AT,)), ("make", 6, (AT,))
        terms = (
            AT, ("at", (0,)), ("at", (0, 0)), call, ("call", 1, (0,)), ("call", 1, (1, 0)), ("call", 2, ()), made_five,
            made_six, ("make", 5, (AT, AT)), ("make", 5, (call,)), ("make", 6, (("call", 1, (1,)),)))
        for first, second in itertools.permutations(terms, 2):
            one, other = made(first), made(second)
            self.assertTrue(alike.is_marked(one) and alike.is_marked(other))
            meaning, x = alike.parting(one, other)
            self.assertTrue(plain_parted(one, other, meaning, x), (first, second))
        for one, other in ((made(AT), made(AT, 2)), (made(AT), made(AT)[:1] + made(AT)[2:] + (END,)), (made(AT), (made(AT)[0][2],)),
                           (made(AT), (made(AT)[0][:2] + (made(AT)[0][3], made(AT)[0][2]),))):
            if not alike.are_alike(one, other):
                self.assertTrue(plain_parted(one, other, *alike.parting(one, other)), other)

    def test_the_same_tests_of_unlike_names(self):
        # NAME 1 asks TEST 1 in the one and is what NAME 2 is in the other.
        first, second = ("leaf", ("make", 1, (AT,))), ("leaf", ("make", 2, (("call", 2, (0,)),)))
        one = (("leaf", ("make", 0, (("call", 1, ()), ("call", 2, ())))), ("ask", 1, first, second), ("ask", 2, second, first))
        other = (one[0], ("ask", 2, second, first), ("ask", 1, first, second))
        for own in ((one, other), (other, one)):
            self.assertTrue(plain_parted(*own, *alike.parting(*own)))

    def test_what_is_nearly_a_parting(self):
        own = alike.parting(ONE, THIRD)
        for thing in itertools.chain(variants(own), odd_things()):
            if thing[:1] != own[:1] if isinstance(thing, tuple) else True:
                expected = False
                if isinstance(thing, tuple) and len(thing) == 2 and is_meaning(thing[0]) and thing[1] == 0 and thing[1] is not False:
                    expected = is_for(thing[0], ONE) and plain_parted(ONE, THIRD, *thing)
                self.assertIs(alike.is_parting(ONE, THIRD, thing), expected, thing)
        meaning, x = own
        for thing in ((meaning, meaning[0]), (meaning, False), (list(meaning), x), (meaning, x, x), (meaning,), ((1, (), ()), 0),
                      ((meaning[0], meaning[1][:1], meaning[2]), x)):
            self.assertIs(alike.is_parting(ONE, THIRD, thing), False, thing)
        self.assertIs(alike.is_parting(ONE, ONE, own), False)

    def test_meanings_for_one_alone(self):
        stepping = (("leaf", ("make", 0, (("at", (3,)),))),)
        self.assertIs(alike.is_parting(stepping, (("leaf", AT),), ((1, (), ()), 0)), False)
        self.assertIs(alike.is_parting((("leaf", AT),), stepping, ((1, (), ()), 0)), False)
        self.assertIs(alike.is_parting((("leaf", AT),), stepping, ((1, ((0,),) * 4, ()), 0)), True)
        # Neither need be marked.
        self.assertIs(alike.is_parting(SHORT, (("leaf", AT),), ((1, ((0,),) * 2, ((True,),)), 0)), True)
        self.assertIs(alike.is_parting(SHORT, (("leaf", AT),), ((1, ((0,),) * 2, ((False,),)), 0)), True)
        self.assertIs(alike.is_parting(SHORT, SHORT, ((1, ((0,),) * 2, ((False,),)), 0)), False)

    def test_by_chance(self):
        counted = {True: 0, False: 0}
        for seed in range(500):
            dice = chance(seed)
            one, other = [rules_by_chance(dice, 2) for _ in range(2)]
            if dice.random() < 0.5:
                other = bent(dice, one)
            if is_program(one) and is_program(other):
                meaning, x = meaning_by_chance(dice, 3, 5), dice.randrange(3)
                if all(not plain.ends(own, meaning, (0, x)) or answer_parts(own, meaning, 0, x) < 500 for own in (one, other)):
                    if is_for(meaning, one) and is_for(meaning, other):
                        expected = plain_parted(one, other, meaning, x)
                        counted[expected] += 1
                        self.assertIs(alike.is_parting(one, other, (meaning, x)), expected)
        self.assertTrue(min(counted.values()) > 20, counted)


if __name__ == "__main__":
    unittest.main()
