"""unwound.growth [17]."""

import itertools
import math
import unittest

from tests import plain
from tests.nests_by_chance import nest_program, path_rules, row_rules, wide_rules
from tests.support import chance, odd_things, rules_by_chance, told, variants
from unwound import growth
from unwound.errors import CanNot, TooMuch
from unwound.programs import is_program
from unwound.rows import can_loop

END = ("leaf", ("at", ()))


def named(*leaves_of_names):
    """The PROGRAM whose NAMES end, or go to a leaf that makes what these calls (name, word) come to."""
    return tuple(
        ("ask", test, END, ("leaf", ("make", 0, (("at", ()),) + tuple(("call",) + call for call in calls))))
        for test, calls in enumerate(leaves_of_names))


FIB = named([(0, (0,)), (0, (0, 0))])
FORK = named([(0, (0, 1)), (0, (1, 0))])
WEDGE = named([(0, (0,)), (1, (1,))], [(1, (1,)), (1, (1, 1))])
ENDING = (("leaf", ("make", 0, (("at", ()), ("call", 1, (0, 1, 0))))), END)
AT_ONCE = named([(1, ()), (1, (0,))], [(2, ()), (0, (1,))], [(0, (0, 1))])


def plain_calls(rules, n):
    """All calls that can be within n STEPS, told one by one."""
    found, waiting = {(0, ())}, [(0, ())]
    while waiting:
        caller, near = waiting.pop()
        for name, far in {call for leaf in plain.leaves(rules[caller]) for call in plain.calls(leaf)}:
            if len(near + far) <= n and (name, near + far) not in found:
                found.add((name, near + far))
                waiting.append((name, near + far))
    return found


def plain_lot(rules, word):
    """The LOT of word, from all calls that can be at its beginnings."""
    found = {(0, ())} if not word else set()
    for caller, near in plain_calls(rules, len(word)):
        if word[:len(near)] == near:
            for leaf in plain.leaves(rules[caller]):
                found |= {
                    (name, (near + far)[len(word):]) for name, far in plain.calls(leaf)
                    if (near + far)[:len(word)] == word and len(near + far) >= len(word)}
    return tuple(sorted(found))


def plain_ways(rules, n, name=0, size=0):
    """How many ways of calls there are, as many STEPS being left."""
    calls = {call for leaf in plain.leaves(rules[name]) for call in plain.calls(leaf)}
    return 1 + sum(plain_ways(rules, n, called, size + len(word)) for called, word in calls if size + len(word) <= n)


def words_to(many):
    """All WORDS of the STEPS 0 and 1 of at most so many."""
    return [word for size in range(many + 1) for word in itertools.product((0, 1), repeat=size)]


def programs(many):
    """PROGRAMS of one to three NAMES with WORDS of up to two STEPS."""
    found, seed = [FIB, FORK, WEDGE, ENDING, AT_ONCE], 0
    while len(found) < many:
        seed += 1
        rules = rules_by_chance(chance(seed), 3)
        if is_program(rules):
            found.append(rules)
    return found


def has_two_rings(program):
    """True if there are TWO RINGS."""
    try:
        growth.two_rings(program)
    except CanNot:
        return False
    return True


def lots_in_a_row(many):
    """A PROGRAM with so many LOTS."""
    return (("leaf", ("call", 1, (0,) * (many - 1))), END)


def every_word(name):
    """Sixteen calls of name by all WORDS of four STEPS."""
    return [(name, word) for word in words_to(4) if len(word) == 4]


# Whether NAME 1 is called at each of the last nine places is told by a LOT, so there are more than 512.
MANY_LOTS = named([(0, (0,)), (0, (1,)), (1, (0,))], every_word(2), every_word(3), [])
PROGRAMS = programs(160)


class CallsTest(unittest.TestCase):

    def test_lots(self):
        for program in PROGRAMS[:60]:
            for word in words_to(4) + [(0, 1, 1, 0, 0, 1), (2,), (0, 2)]:
                self.assertEqual(growth.lot_of(program, word), plain_lot(program, word), (program, word))

    def test_far_lots(self):
        self.assertEqual(growth.lot_of(FIB, (0,) * 60), ((0, ()), (0, (0,)), (0, (0, 0))))
        self.assertEqual(growth.lot_of(FORK, (0, 1) * 30), ((0, ()), (0, (0, 1)), (0, (1, 0))))
        self.assertEqual(growth.lot_of(FORK, (0, 1) * 29 + (0, 0)), ())
        self.assertEqual(growth.lot_of((END,), ()), ((0, ()),))
        self.assertEqual(growth.lot_of((END,), (0,)), ())

    def test_calls_and_ways(self):
        for program in PROGRAMS:
            for n in (0, 1, 2, 3, 6):
                self.assertEqual(growth.calls_within(program, n), len(plain_calls(program, n)), (program, n))
                if n < 5:
                    self.assertEqual(growth.ways_within(program, n), plain_ways(program, n), (program, n))

    def test_a_way_that_two_leaves_call_is_one(self):
        call = ("call", 0, (0,))
        program = (("ask", 0, END, ("ask", 1, ("leaf", call), ("leaf", ("make", 0, (call, call))))),)
        self.assertEqual([growth.ways_within(program, n) for n in (0, 1, 9)], [1, 2, 10])
        self.assertEqual([growth.ways_within(AT_ONCE, n) for n in (0, 1, 2)], [plain_ways(AT_ONCE, n) for n in (0, 1, 2)])

    def test_ways_to_300(self):
        fib = [1, 1]
        while len(fib) < 310:
            fib.append(fib[-1] + fib[-2])
        for n in (0, 1, 2, 50, 299, 300):
            self.assertEqual(growth.ways_within(FIB, n), sum(fib[:n + 1]))
            self.assertEqual(growth.ways_within(FORK, n), 2 ** (n // 2 + 1) - 1)

    def test_calls_to_300(self):
        for n in (7, 100, 299, 300):
            self.assertEqual(growth.calls_within(FORK, n), 2 ** (n // 2 + 1) - 1)
            self.assertEqual(growth.calls_within(FIB, n), n + 1)
            self.assertEqual(growth.calls_within(named([(0, (0,)), (0, (1,))]), n), 2 ** (n + 1) - 1)

    def test_two_rings_and_just_300(self):
        for program in (FORK, named([(0, (0,)), (0, (1,))]), named([(1, (1,))], [(1, (0, 0)), (1, (0, 1))])):
            self.assertTrue(has_two_rings(program))
            told(growth.calls_within, program, 300)
            for n in (301, 302, 10 ** 18):
                with self.assertRaises(TooMuch):
                    told(growth.calls_within, program, n)

    def test_no_far_border_without_two_rings(self):
        for program in PROGRAMS:
            if not has_two_rings(program):
                numbers = [growth.calls_within(program, n) for n in range(290, 320)]
                # From the 290th on the sums go on as they did: what is told by a series fits to what is counted.
                by_length = [after - ahead for ahead, after in zip(numbers, numbers[1:])]
                self.assertTrue(min(by_length) >= 0)
                self.assertEqual(growth.calls_within(program, 310), self.counted(program, 310))

    def counted(self, program, n):
        """The number of calls, counted along all LOTS step by step."""
        row, many = {growth.lot_of(program, ()): 1}, 0
        for _ in range(n + 1):
            many += sum(times * len([name for name, rest in lot if not rest]) for lot, times in row.items())
            later = {}
            for lot, times in row.items():
                for step in {rest[0] for name, rest in lot if rest}:
                    pairs, waiting = set(), [(name, rest[1:]) for name, rest in lot if rest[:1] == (step,)]
                    while waiting:
                        pair = waiting.pop()
                        if pair not in pairs:
                            pairs.add(pair)
                            if not pair[1]:
                                waiting += [
                                    call for leaf in plain.leaves(program[pair[0]]) for call in plain.calls(leaf)]
                    then = tuple(sorted(pairs))
                    later[then] = later.get(then, 0) + times
            row = later
        return many

    def test_far_out_rings_of_one_length(self):
        # NAMES one behind another, each calling itself by so many STEPS of its own and the next one by one STEP.
        for many in (1, 2, 3, 4):
            for length in (1, 2, 3):
                rules = named(*[
                    [(name, (name,) * length)] + ([(name + 1, (9 - name,))] if name + 1 < many else [])
                    for name in range(many)])
                for n in (0, 1, 5, 299, 300, 301, 302, 303, 1000, 10 ** 9, 10 ** 18):
                    expected = sum(
                        math.comb((n - name) // length + name + 1, name + 1) for name in range(many) if n >= name)
                    self.assertEqual(growth.calls_within(rules, n), expected, (many, length, n))
                self.assertEqual(growth.power_of(rules), many)

    def test_far_out_rings_of_two_lengths(self):
        rules = named([(0, (0, 0)), (1, (5,))], [(1, (1, 1, 1))])
        for n in (10, 300, 301, 302, 306, 12345, 10 ** 18, 10 ** 18 - 1):
            m, both = n - 1, 0
            for rest in range(3):
                if 2 * rest <= m:
                    times = (m - 2 * rest) // 6
                    both += sum((m - 2 * rest) // 3 - 2 * k + 1 for k in (0, times)) * (times + 1) // 2
            self.assertEqual(growth.calls_within(rules, n), n // 2 + 1 + both, n)

    def test_far_out_rings_of_many_lengths(self):
        # Rings of 4, 3, 2 and 1 STEPS one behind another, counted by one sum for each.
        rules = named([(0, (0,) * 4), (1, (5,))], [(1, (1,) * 3), (2, (6,))], [(2, (2,) * 2), (3, (7,))], [(3, (3,))])
        for n in (301, 400, 977):
            row, many = [1] + [0] * n, 0
            for length in (4, 3, 2, 1):
                for size in range(length, n + 1):
                    row[size] += row[size - length]
                many += sum(row)
                row = [0] + row[:-1]
            self.assertEqual(growth.calls_within(rules, n), many)
        self.assertEqual(growth.power_of(rules), 4)
        self.assertEqual(len(str(growth.calls_within(rules, 10 ** 18))), 70)

    def test_in_all_ways(self):
        for program in (FIB, FORK, AT_ONCE):
            told(growth.lot_of, program, (0, 1))
            told(growth.calls_within, program, 5)
            told(growth.ways_within, program, 5)
            for function in (growth.power_of, growth.ring_row, growth.two_rings):
                try:
                    told(function, program)
                except CanNot:
                    pass
        told(growth.is_ring_row, FIB, (((), (0,)),))
        told(growth.are_two_rings, FORK, ((), (0, 1), (1, 0)))


class RingsTest(unittest.TestCase):

    def check_row(self, program, row):
        """row is a RING ROW, told plainly."""
        word, lots = (), []
        for lead, ring in row:
            self.assertTrue(ring)
            lots.append(plain_lot(program, word + lead))
            self.assertTrue(lots[-1])
            self.assertEqual(plain_lot(program, word + lead + ring), lots[-1])
            word += lead + ring

    def test_never_both_never_neither(self):
        both = {True: 0, False: 0}
        for program in PROGRAMS:
            rings = has_two_rings(program)
            both[rings] += 1
            if rings:
                word, one, other = growth.two_rings(program)
                self.assertNotEqual(one + other, other + one)
                lots = [plain_lot(program, own) for own in (word, word + one, word + other)]
                self.assertTrue(lots[0] and lots[0] == lots[1] == lots[2], program)
                self.assertIs(growth.are_two_rings(program, (word, one, other)), True)
                for function in (growth.power_of, growth.ring_row):
                    with self.assertRaises(CanNot):
                        function(program)
            else:
                row = growth.ring_row(program)
                self.assertEqual(len(row), growth.power_of(program))
                self.assertIs(growth.is_ring_row(program, row), True)
                self.check_row(program, row)
                self.check_growth(program, growth.power_of(program))
        self.assertTrue(min(both.values()) > 20, both)

    def check_growth(self, program, power):
        """The calls within n STEPS become as many as n to the power, but for some number."""
        near, far = growth.calls_within(program, 10 ** 6), growth.calls_within(program, 10 ** 9)
        self.assertTrue(10 ** (3 * power) * near <= 1000 * far and far <= 1000 * near * 10 ** (3 * power), program)

    def test_three_steps_round(self):
        program = named([(0, (0,)), (0, (1,)), (0, (2,))])
        self.assertIs(growth.are_two_rings(program, growth.two_rings(program)), True)
        self.assertEqual(growth.calls_within(program, 300), (3 ** 301 - 1) // 2)

    def test_two_rings_double(self):
        for program in PROGRAMS:
            if has_two_rings(program):
                word, one, other = growth.two_rings(program)
                size = len(one) * len(other)
                many = [growth.calls_within(program, len(word) + times * size) for times in (1, 3, 5)]
                self.assertTrue(many[2] > 2 * many[1] > 4 * many[0] or many[2] > 4 * many[1], program)

    def test_the_border_once_more(self):
        counted = {True: 0, False: 0}
        for seed in range(400):
            program = nest_program(chance(seed), 1, (path_rules, row_rules, wide_rules, wide_rules))
            if not is_program(program):
                continue
            names = plain.reached(program)
            if all(sum(1 for own in plain.own_calls(program, name) if own) <= 1 for name in names):
                try:
                    rings = has_two_rings(program)
                except TooMuch:
                    continue
                counted[rings] += 1
                self.assertIs(can_loop(program), not rings, program)
        self.assertTrue(min(counted.values()) > 25, counted)

    def test_what_is_nearly_two_rings(self):
        own = ((), (0, 1), (1, 0))
        self.assertIs(growth.are_two_rings(FORK, own), True)
        self.assertIs(growth.are_two_rings(FORK, ((0, 1), (0, 1, 1, 0), (1, 0))), True)
        self.assertIs(growth.are_two_rings(FORK, ((0,), (1, 0), (1, 1, 0, 0))), True)
        for thing in itertools.chain(variants(own), odd_things()):
            self.assertIs(growth.are_two_rings(FORK, thing), False, thing)
        for thing in (
                ((), (0, 1), (1,)), ((), (1,), (0, 1)), ((), (0, 1), (0,)), ((), (0,), (1, 0)), ((0,), (1, 0), (1,)),
                ((), (0, 1), (0, 1)), ((), (0, 1), (0, 1, 0, 1)), ((), (), (0, 1)), ((0,), (0, 1), (1, 0)),
                ((0, 0), (0, 1), (1, 0)), ((2,), (0,), (1,)), own + ((),), own[:2]):
            self.assertIs(growth.are_two_rings(FORK, thing), False, thing)
        self.assertIs(growth.are_two_rings(FIB, ((), (0,), (0, 0))), False)
        self.assertIs(growth.are_two_rings(FORK, ((0, 1) * 2000, (0, 1) * 900, (1, 0) * 900)), True)

    def test_what_is_nearly_a_ring_row(self):
        row = (((), (0,)), ((1,), (1,)))
        for thing in (row, (), row[:1], (((1,), (1,)),), (((0, 0), (0,)), ((0, 1), (1, 1))), (((0,), (0, 0, 0)),)):
            self.assertIs(growth.is_ring_row(WEDGE, thing), True, thing)
        for thing in itertools.chain(variants(row), (own for own in odd_things() if own != ())):
            self.assertIs(growth.is_ring_row(WEDGE, thing), False, thing)
        for thing in (
                row + row[1:], row[1:] + row[:1], row[:1] * 2, (((), ()),), (((), (1,)),), (((1, 0), (0,)),),
                (((), (0,)), ((), (1,))), (((), (0,)), ((1,), (1, 0))), row + (((), (1,)),)):
            self.assertIs(growth.is_ring_row(WEDGE, thing), False, thing)
        # Unlike WORDS may have one LOT; what has a ring may be come to from a later ring.
        self.assertEqual(growth.lot_of(WEDGE, (0,)), growth.lot_of(WEDGE, (0, 0)))
        self.assertIs(growth.is_ring_row(FORK, (((), (0, 1)), ((), (1, 0)))), False)
        self.assertIs(growth.is_ring_row(FORK, (((), (0, 1)), ((0,), (1, 0)))), False)
        self.assertIs(growth.is_ring_row(FORK, (((), (0, 1)),)), True)
        long = (((0,) * 3000, (0,) * 3000), ((1,) * 3000, (1,) * 3000))
        self.assertIs(growth.is_ring_row(WEDGE, long), True)
        self.assertIs(growth.is_ring_row(ENDING, ()), True)
        self.assertIs(growth.is_ring_row(ENDING, (((0,), (1,)),)), False)

    def test_rings_that_lie_beside_each_other(self):
        program = named([(1, (0,)), (2, (1,))], [(1, (2,)), (3, (3,))], [(2, (2,)), (3, (4,))], [(3, (5,))])
        self.assertEqual(growth.power_of(program), 2)
        self.assertIs(growth.is_ring_row(program, (((0,), (2,)), ((3,), (5,)))), True)
        self.assertIs(growth.is_ring_row(program, (((1,), (2,)), ((4,), (5,)))), True)
        # What the two NAMES are asked for is one LOT no more than their rings are one.
        self.assertIs(growth.is_ring_row(program, (((0,), (2,)), ((3,), (2,)))), False)

    def test_no_rings(self):
        self.assertEqual((growth.power_of(ENDING), growth.ring_row(ENDING)), (0, ()))
        self.assertEqual(growth.calls_within(ENDING, 10 ** 18), 2)
        self.assertEqual([growth.calls_within((END,), n) for n in (0, 1, 10 ** 18)], [1, 1, 1])


class ManyLotsTest(unittest.TestCase):

    def test_just_400_and_one_more(self):
        program = lots_in_a_row(400)
        self.assertEqual(growth.calls_within(program, 398), 1)
        self.assertEqual(growth.calls_within(program, 10 ** 18), 2)
        self.assertEqual(growth.power_of(program), 0)
        with self.assertRaises(CanNot):
            growth.two_rings(program)
        more = lots_in_a_row(401)
        for call in (
                lambda: growth.calls_within(more, 0), lambda: growth.calls_within(more, 500), lambda: growth.power_of(more),
                lambda: growth.ring_row(more), lambda: growth.two_rings(more)):
            with self.assertRaises(TooMuch):
                call()
        self.assertEqual(growth.ways_within(more, 5), 1)
        self.assertEqual(len(growth.lot_of(more, (0,) * 5)), 1)
        self.assertIs(growth.is_ring_row(more, ()), True)
        self.assertIs(growth.are_two_rings(more, ((), (0,), (0,))), False)

    def test_many_lots_within_the_bounds(self):
        self.assertTrue(is_program(MANY_LOTS))
        for n in (0, 10 ** 18):
            with self.assertRaises(TooMuch):
                told(growth.calls_within, MANY_LOTS, n)
        for function in (growth.power_of, growth.ring_row, growth.two_rings):
            with self.assertRaises(TooMuch):
                told(function, MANY_LOTS)
        self.assertIs(growth.are_two_rings(MANY_LOTS, ((), (0,), (1,))), False)
        far = (0,) * 12
        self.assertIs(growth.are_two_rings(MANY_LOTS, (far, (0,), (1,) + far)), True)


if __name__ == "__main__":
    unittest.main()
