"""unwound.rows [7]."""

import itertools
import math
import unittest

from tests import plain
from tests.support import chance, odd_things, rules_by_chance, told, variants
from unwound import rows
from unwound.errors import CanNot, NoPlace, Unfit
from unwound.programs import is_program

END = ("leaf", ("make", 0, (("at", ()),)))


def on(*calls):
    """A leaf that makes something of these calls."""
    return "leaf", ("make", 1, tuple(("call", name, word) for name, word in calls))


TWICE = (("ask", 0, END, on((0, (0,)), (0, (0, 0)))),)
BOTH_WAYS = (("ask", 0, END, on((0, (0, 1)), (0, (1, 0)))),)
IN_TURN = (("ask", 0, END, on((0, (0, 1)), (1, (0,)))), ("ask", 1, END, ("leaf", ("call", 0, (1,)))))
CHOOSING = (("ask", 0, END, ("ask", 1, ("leaf", ("call", 0, (0,))), on((0, (1,))))),)
STILL = (END, ("ask", 0, END, on((0, ()), (0, (1,)))))
EVEN = (("ask", 0, END, on((0, (0, 0)), (0, (0, 0, 0, 0)))),)
THREE = (
    ("ask", 0, END, on((1, (0,)), (2, (0, 1)))), ("ask", 1, END, on((2, (1,)), (1, (1, 0, 0, 1, 0, 0)))),
    ("ask", 2, END, on((0, (0, 0, 1, 0)), (3, ()))), END)


def kept_program(dice):
    """A PROGRAM, one COMPONENT of which keeps to ROWS, but for a call by chance now and then."""
    names, long = dice.randint(1, 3), dice.randint(1, 4)
    line = tuple(dice.randrange(2) for _ in range(long))
    places = [0] + [dice.randrange(long) for _ in range(names - 1)]
    rules = []
    for name in range(names):
        calls = []
        for after in {(name + 1) % names, dice.randrange(names)}:
            many = (places[after] - places[name]) % long + long * dice.randint(0, 1)
            many += 0 if many or name < after else long
            calls.append((after, (line * 4)[places[name]:places[name] + many]))
        if dice.random() < 0.2:
            calls.append((dice.randrange(names), (dice.randrange(2), dice.randrange(2))))
        rules.append(("ask", name, END, on(*calls)))
    return tuple(rules)


def programs_by_chance():
    """PROGRAMS with ROWS and without, plain ones and others."""
    dice = chance(70)
    made = [kept_program(dice) for _ in range(150)] + [rules_by_chance(dice) for _ in range(500)]
    return [program for program in made if plain.least_ring(program) is None and not plain.endless(program)]


PROGRAMS = [TWICE, BOTH_WAYS, IN_TURN, CHOOSING, STILL, EVEN, THREE] + programs_by_chance()


def homes(program):
    """The COMPONENTS of program that are not still."""
    return [home for home in plain.components(program) if plain.kind(program, home[0]) != "still"]


def edges(program, home):
    """The own calls of the COMPONENT: (name, called, word)."""
    return {(name,) + call for name in home for own in plain.own_calls(program, name) for call in own}


def closed_walks(program, name, most):
    """The closed WALKS of name of at most so many calls."""
    home = plain.component(program, name)
    steps = edges(program, home)
    found, open_walks = [], [((), name)]
    for _ in range(most):
        open_walks = [
            (walk + ((after, word),), after) for walk, at in open_walks for own, after, word in steps if own == at]
        found += [walk for walk, at in open_walks if at == name]
        if len(open_walks) > 600:
            break
    return found


def lengths(program, name):
    """The lengths of the WORDS of the closed WALKS of name of at most twelve calls."""
    steps = edges(program, plain.component(program, name))
    found, now = set(), {(name, 0)}
    for _ in range(12):
        now = {(after, many + len(word)) for at, many in now for own, after, word in steps if own == at}
        found |= {many for at, many in now if at == name}
    return found


def word_of(walk):
    return tuple(step for name, word in walk for step in word)


def plain_rows(program, thing):
    """True if thing, a triple of three tuples of numbers, is ROWS, told as [7] tells it."""
    names, word, places = thing
    if names not in homes(program) or not word or len(places) != len(names):
        return False
    if any(place >= len(word) for place in places):
        return False
    at = dict(zip(names, places))
    for name, after, own in edges(program, names):
        endless = word * (2 + len(own))
        if endless[at[name]:at[name] + len(own)] != own or (at[name] + len(own)) % len(word) != at[after]:
            return False
    return True


def some_rows(program, home, many):
    """ROWS with a word of so many STEPS and place 0 for the least of home; None if there are none."""
    for others in itertools.product(range(many), repeat=len(home) - 1):
        at = dict(zip(home, (0,) + others))
        letters, good = {}, True
        for name, after, own in edges(program, home):
            good = good and (at[name] + len(own)) % many == at[after]
            for place, step in enumerate(own):
                good = good and letters.setdefault((at[name] + place) % many, step) == step
        if good:
            return home, tuple(letters.get(place, 0) for place in range(many)), (0,) + others
    return None


class WalksTest(unittest.TestCase):

    def test_walk_word(self):
        self.assertEqual(told(rows.walk_word, ((0, (1, 0)), (1, ()), (0, (0, 1)))), (1, 0, 0, 1))
        self.assertEqual(told(rows.walk_word, ((0, ()),)), ())

    def test_closed_walks(self):
        for program in PROGRAMS[:80]:
            for name in range(len(program)):
                walks = closed_walks(program, name, 3)
                for walk in walks[:10]:
                    self.assertIs(told(rows.is_closed_walk, program, name, walk), True)
                    for other in range(len(program)):
                        expected = walk in closed_walks(program, other, 3)
                        self.assertIs(rows.is_closed_walk(program, other, walk), expected)

    def test_calls_by_chance(self):
        dice = chance(71)
        for program in PROGRAMS[:80]:
            name = dice.randrange(len(program))
            steps = [own[1:] for own in edges(program, plain.component(program, name))] + [(0, ()), (1, (1,))]
            walks = closed_walks(program, name, 4)
            for _ in range(20):
                thing = tuple(dice.choice(steps) for _ in range(dice.randint(0, 4)))
                self.assertIs(rows.is_closed_walk(program, name, thing), thing in walks)

    def test_calls_that_are_not_own(self):
        self.assertIs(rows.is_closed_walk(THREE, 2, ((3, ()),)), False)
        self.assertIs(rows.is_closed_walk(STILL, 1, ((0, ()),)), False)
        self.assertIs(rows.is_closed_walk(TWICE, 0, ()), False)

    def test_what_is_nearly_one(self):
        walk = ((1, (0,)), (0, (1,)), (0, (0, 1)))
        self.assertIs(told(rows.is_closed_walk, IN_TURN, 0, walk), True)
        for thing in variants(walk):
            self.assertIs(rows.is_closed_walk(IN_TURN, 0, thing), False, thing)
        for thing in (walk[:1], walk[1:], walk + ((1, (0,)),), walk[0], walk[:1] + walk, ((0, (0, 1), ()),), ((0,),)):
            self.assertIs(rows.is_closed_walk(IN_TURN, 0, thing), False, thing)

    def test_other_things(self):
        for thing in odd_things():
            for program in (TWICE, IN_TURN, STILL):
                self.assertIs(rows.is_closed_walk(program, 0, thing), False)
                self.assertIs(rows.is_rows(program, thing), False)
                self.assertIs(rows.is_fork(program, thing), False)
                self.assertIs(rows.is_rows(program=program, thing=thing), False)

    def test_a_long_walk(self):
        self.assertIs(rows.is_closed_walk(TWICE, 0, ((0, (0,)),) * 20000), True)
        self.assertIs(rows.is_closed_walk(TWICE, 0, ((0, (0,)),) * 20000 + ((0, ()),)), False)


class RowsTest(unittest.TestCase):

    def test_rows_or_a_fork_never_both(self):
        with_rows, with_forks = 0, 0
        for program in PROGRAMS:
            for home in homes(program):
                for name in home:
                    if self.has_rows(program, home, name):
                        with_rows += 1
                    else:
                        with_forks += 1
        self.assertGreater(min(with_rows, with_forks), 60)

    def has_rows(self, program, home, name):
        walks = [word_of(walk) for own in home for walk in closed_walks(program, own, 5)]
        by_name = {own: [word_of(walk) for walk in closed_walks(program, own, 5)] for own in home}
        commuting = all(one + other == other + one for own in by_name.values() for one in own[:1] for other in own)
        self.assertTrue(all(walks))
        if commuting:
            thing = told(rows.rows_of, program, name)
            self.assertTrue(plain_rows(program, thing), (program, thing))
            self.assertIs(told(rows.is_rows, program, thing), True)
            self.assertEqual(thing[2][0], 0)
            self.assertRaises(CanNot, told, rows.fork_of, program, name)
            return True
        self.assertRaises(CanNot, told, rows.rows_of, program, name)
        self.check_fork(program, home, told(rows.fork_of, program, name))
        return False

    def check_fork(self, program, home, thing):
        self.assertIs(told(rows.is_fork, program, thing), True)
        near, one, other = thing
        self.assertIn(near, home)
        self.assertNotEqual(one[0], other[0])
        self.assertNotEqual(word_of(one) + word_of(other), word_of(other) + word_of(one))
        for walk in (one, other):
            at = near
            for after, word in walk:
                self.assertIn((at, after, word), edges(program, home))
                at = after
            self.assertEqual(at, near)
        if plain.plain_wide(program, near):
            self.assertTrue(any({one[0], other[0]} <= set(own) for own in plain.own_calls(program, near)))

    def test_stride(self):
        for program in PROGRAMS:
            for home in homes(program):
                for name in home:
                    self.assertEqual(told(rows.stride, program, name), math.gcd(*lengths(program, name)))
        self.assertEqual([rows.stride(EVEN, 0), rows.stride(THREE, 1), rows.stride(TWICE, 0)], [2, 6, 1])

    def test_rows_of_longer_words(self):
        for program in PROGRAMS[:200]:
            for home in homes(program):
                most = rows.stride(program, home[0])
                if most > 12 or len(home) > 3:
                    continue
                try:
                    shortest = len(rows.rows_of(program, home[0])[1])
                except CanNot:
                    shortest = None
                for many in range(1, 2 * most + 2):
                    found = some_rows(program, home, many)
                    expected = shortest is not None and many % shortest == 0 and most % many == 0
                    self.assertIs(found is not None, expected, (program, home, many))
                    if found:
                        self.assertIs(rows.is_rows(program, found), True)
                    if many == shortest:
                        self.assertEqual(found, rows.rows_of(program, home[0]))

    def test_rows_of_a_row_twice_along(self):
        self.assertEqual(told(rows.rows_of, EVEN, 0), ((0,), (0,), (0,)))
        self.assertIs(rows.is_rows(EVEN, ((0,), (0, 0), (1,))), True)
        self.assertIs(rows.is_rows(EVEN, ((0,), (0, 0), (2,))), False)
        self.assertIs(rows.is_rows(EVEN, ((0,), (0, 0, 0), (0,))), False)
        self.assertEqual(told(rows.rows_of, THREE, 2), ((0, 1, 2), (0, 1, 0), (0, 1, 2)))

    def test_is_rows_by_chance(self):
        dice, met = chance(72), 0
        for program in PROGRAMS:
            for home in homes(program):
                for _ in range(10):
                    word = tuple(dice.randrange(2) for _ in range(dice.randint(0, 3)))
                    thing = home, word, tuple(dice.randrange(4) for _ in home)
                    met += plain_rows(program, thing)
                    self.assertIs(rows.is_rows(program, thing), plain_rows(program, thing), (program, thing))
        self.assertGreater(met, 20)

    def test_what_is_nearly_rows(self):
        for program, thing in (
                (IN_TURN, ((0, 1), (0, 1), (0, 1))), (IN_TURN, ((0, 1), (1, 0), (1, 0))), (TWICE, ((0,), (0,), (0,)))):
            self.assertIs(told(rows.is_rows, program, thing), True)
            for other in variants(thing):
                self.assertIs(rows.is_rows(program, other), False, other)
        names, word, places = (0, 1), (0, 1), (0, 1)
        for thing in (
                (names, word), (names, word, places, ()), ((1, 0), word, (1, 0)), ((0,), word, (0,)), ((), (), ()),
                (names, (), places), (names, word, (0,)), (names, word, (0, 1, 0)), (names, word, (0, 3)),
                ((0, 1, 1), word, (0, 1, 1)), ((0, 2), word, places), ((2, 3), word, places), (names, word, (1, 1)),
                ((), word, ()), (names, word + (0,), places), ((0, 0), word, (0, 0)), ((1,), word, (1,))):
            self.assertIs(rows.is_rows(IN_TURN, thing), False, thing)
        self.assertIs(rows.is_rows(STILL, ((0,), (0,), (0,))), False)

    def test_far_beyond_the_bounds(self):
        program = (("ask", 0, END, on((0, (0, 1) * 30), (0, (0, 1) * 60))),)
        for many in (1, 2, 10, 30):
            self.assertIs(rows.is_rows(program, ((0,), (0, 1) * many, (0,))), True)
        self.assertIs(rows.is_rows(program, ((0,), (0, 1) * 60, (0,))), False)
        self.assertIs(rows.is_rows(program, ((0,), (0, 1) * 30000, (0,))), False)


class ForksTest(unittest.TestCase):

    def test_is_fork(self):
        met = 0
        for program in PROGRAMS[:60]:
            for name in range(len(program)):
                walks = closed_walks(program, name, 3)[:12]
                for one, other in itertools.product(walks, walks):
                    words = word_of(one) + word_of(other), word_of(other) + word_of(one)
                    expected = one[0] != other[0] and words[0] != words[1]
                    met += expected
                    self.assertIs(rows.is_fork(program, (name, one, other)), expected)
        self.assertGreater(met, 20)

    def test_what_is_nearly_a_fork(self):
        here, there = ((0, (0, 1)),), ((0, (1, 0)), (0, (0, 1)))
        self.assertIs(told(rows.is_fork, BOTH_WAYS, (0, here, there)), True)
        for thing in variants((0, here, there)):
            self.assertIs(rows.is_fork(BOTH_WAYS, thing), False, thing)
        for thing in (
                (0, here), (0, here, there, here), (here, there), (1, here, there), (0, here, here), (0, (), there),
                (0, here, ()), (0, here, here + there), (10 ** 20, here, there), (0, there, there)):
            self.assertIs(rows.is_fork(BOTH_WAYS, thing), False, thing)

    def test_a_fork_of_walks_that_begin_alike(self):
        program = (("ask", 0, END, ("leaf", ("call", 1, (0,)))), ("ask", 1, END, on((1, (1,)), (0, ()), (0, (1,)))))
        thing = told(rows.fork_of, program, 0)
        self.assertEqual(thing[0], 1)
        self.assertIs(rows.is_fork(program, thing), True)

    def test_a_path_with_a_fork(self):
        thing = told(rows.fork_of, CHOOSING, 0)
        self.assertIs(rows.is_fork(CHOOSING, thing), True)


class ErrorsTest(unittest.TestCase):

    def test_a_name_that_is_none_is_told_first(self):
        for function in (rows.rows_of, rows.fork_of, rows.stride):
            for program in (STILL, BOTH_WAYS):
                for name in (-1, len(program), 10 ** 9):
                    with self.assertRaises(NoPlace) as caught:
                        told(function, program, name)
                    self.assertEqual(caught.exception.place, name)
        for thing in (((0, (0,)),), None):
            with self.assertRaises(NoPlace) as caught:
                told(rows.is_closed_walk, TWICE, 1, thing)
            self.assertEqual(caught.exception.place, 1)

    def test_still_components(self):
        for function in (rows.rows_of, rows.fork_of, rows.stride):
            for name in (0, 1):
                self.assertRaises(Unfit, told, function, STILL, name)

    def test_where_there_is_none(self):
        self.assertRaises(CanNot, told, rows.rows_of, BOTH_WAYS, 0)
        self.assertRaises(CanNot, told, rows.fork_of, TWICE, 0)


class LoopsTest(unittest.TestCase):

    def expected_bars(self, program):
        bars = []
        for home in homes(program):
            if home[0] in plain.reached(program) and plain.kind(program, home[0]) == "wide":
                words = [word_of(walk) for walk in closed_walks(program, home[0], 5)]
                if any(words[0] + word != word + words[0] for word in words):
                    bars.append(home)
        return sorted(bars)

    def test_barred_and_can_loop(self):
        met = {}
        for program in PROGRAMS:
            bars = told(rows.barred, program)
            self.assertEqual(bars, self.expected_bars(program), program)
            wide = [home for home in homes(program) if plain.kind(program, home[0]) == "wide"]
            if all(plain.plain_wide(program, home[0]) for home in wide if home[0] in plain.reached(program)):
                self.assertIs(told(rows.can_loop, program), not bars)
                met[not bars] = met.get(not bars, 0) + 1
            else:
                self.assertRaises(Unfit, told, rows.can_loop, program)
                met["unfit"] = met.get("unfit", 0) + 1
        self.assertGreater(min(met.values()), 10)
        self.assertEqual(len(met), 3)

    def test_what_0_does_not_come_to_does_not_count(self):
        bad = ("ask", 0, END, on((1, (0, 1)), (1, (1, 0))))
        self.assertIs(told(rows.can_loop, (END, bad)), True)
        self.assertEqual(told(rows.barred, (END, bad)), [])
        self.assertIs(told(rows.can_loop, (("leaf", ("call", 1, ())), bad)), False)
        self.assertEqual(told(rows.barred, (("leaf", ("call", 1, ())), bad)), [(1,)])

    def test_barred_stands_ascending(self):
        for names in itertools.permutations(range(1, 5), 4):
            rest = names[1:] + (0,)
            rules = {0: on((names[0], ()))}
            for test, (name, after) in enumerate(zip(names, rest)):
                calls = ((name, (0,)), (name, (1,))) + (((after, ()),) if after else ())
                rules[name] = ("ask", test, END, on(*calls))
            program = tuple(rules[name] for name in range(5))
            self.assertTrue(is_program(program))
            self.assertEqual(told(rows.barred, program), [(1,), (2,), (3,), (4,)])
            self.assertEqual(plain.components(program), tuple((name,) for name in names[::-1]) + ((0,),))
        many = (on(*((name, ()) for name in range(1, 30))),) + tuple(
            ("ask", name, END, on((name, (0,)), (name, (1,)))) for name in range(1, 30))
        self.assertEqual(rows.barred(many), [(name,) for name in range(1, 30)])

    def test_the_list_is_new(self):
        first = rows.barred(BOTH_WAYS)
        first.append("mine")
        self.assertEqual(rows.barred(BOTH_WAYS), [(0,)])
        self.assertIsNot(rows.barred(TWICE), rows.barred(TWICE))


if __name__ == "__main__":
    unittest.main()
