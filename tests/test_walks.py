"""unwound.walks [20]."""

import itertools
import unittest

from tests import plain
from tests.support import chance, lists, meaning_by_chance, odd_things, rules_by_chance, told, variants, word_by_chance
from tests.test_loops import plain_block
from unwound import walks
from unwound.errors import CanNot, Ring, Unfit
from unwound.loops import end_of, is_loops, may_fault, work
from unwound.meanings import is_for
from unwound.programs import checked, is_program
from unwound.terms import parts_in_order

X, ON = ("at", ()), ("call", 0, (0,))
BODY = ("make", 1, (("make", 1, (X, ON)), ("make", 2, (X,))))
SPINE = (("ask", 0, ("leaf", ("at", (1,))), ("leaf", BODY)),)
BARE = (("ask", 0, ("leaf", ON), ("leaf", X)),)
DOUBLED = (("ask", 0, ("leaf", X), ("leaf", ("make", 1, (ON, ON)))),)
ODD = (("ask", 0, ("leaf", X), ("leaf", ("make", 1, (X, ("make", 2, (ON, X)))))),)
NO_SPINES = (
    (("leaf", X),), (SPINE[0], ("leaf", X)), (("ask", 0, ("leaf", X), ("leaf", X)),),
    (("ask", 0, ("leaf", X), ("leaf", ("make", 1, (ON, ("call", 0, (1,)))))),),
    (("ask", 0, ("leaf", X), ("ask", 1, ("leaf", X), ("leaf", BODY))),),
    (("ask", 0, ("ask", 1, ("leaf", X), ("leaf", BODY)), ("leaf", BODY)),),
    (("ask", 0, ("leaf", X), ("leaf", ("call", 1, ()))), ("leaf", X)))


def tree_by_chance(dice, makings, leaf_of):
    """A TERM, or VALUE, of about so many makings, most of them of two by MAKER 1."""
    if not makings:
        return leaf_of(dice)
    many = dice.choice((1, 2, 2, 2, 2, 3))
    rest = [0] * many
    for _ in range(makings - 1):
        rest[dice.randrange(many)] += 1
    return "make", dice.choice((0, 1, 1, 1)), tuple(tree_by_chance(dice, own, leaf_of) for own in rest)


def leaf_by_chance(dice):
    """A TERM without terms."""
    return dice.choice((("at", word_by_chance(dice, 2)), ("call", dice.randrange(2), word_by_chance(dice, 1))))


def thing_by_chance(dice):
    """A VALUE that is a thing."""
    return "thing", dice.randrange(3)


def is_pair(one, maker):
    """True if one is a making of two by maker."""
    return one[0] == "make" and one[1] == maker and len(one[2]) == 2


def moves(one, maker):
    """All to which one move leads: m(a, m(b, c)) in the place of m(m(a, b), c)."""
    if one[0] != "make":
        return
    if is_pair(one, maker) and is_pair(one[2][0], maker):
        (_, _, (first, second)), third = one[2]
        yield "make", maker, (first, ("make", maker, (second, third)))
    for place, part in enumerate(one[2]):
        for moved in moves(part, maker):
            yield one[:2] + (one[2][:place] + (moved,) + one[2][place + 1:],)


def moved_on(dice, one, maker):
    """What comes of moves in any order, when no more can be done."""
    onward = list(moves(one, maker))
    while onward:
        one = dice.choice(onward)
        onward = list(moves(one, maker))
    return one


def string_of(one, maker):
    """What one comes to if maker puts two strings of signs behind one another, and all else makes one sign."""
    if is_pair(one, maker):
        return [sign for part in one[2] for sign in string_of(part, maker)]
    if one[0] == "make":
        return [("make", one[1], tuple(tuple(string_of(part, maker)) for part in one[2]))]
    return [one]


class CombedTest(unittest.TestCase):

    def test_by_moves_in_any_order(self):
        moved = 0
        for seed in range(400):
            dice = chance(seed)
            one = tree_by_chance(dice, dice.randint(0, 9), (leaf_by_chance, thing_by_chance)[seed % 2])
            for maker in (0, 1, 2):
                found = told(walks.combed, one, maker)
                self.assertEqual(list(moves(found, maker)), [])
                self.assertEqual(string_of(found, maker), string_of(one, maker))
                for _ in range(3):
                    self.assertEqual(moved_on(dice, one, maker), found)
                self.assertEqual(walks.combed(found, maker), found)
                moved += found != one
        self.assertGreater(moved, 120)

    def test_alike_by_strings(self):
        counted = {True: 0, False: 0}
        for seed in range(500):
            dice = chance(seed)
            one = tree_by_chance(dice, dice.randint(2, 7), thing_by_chance)
            signs = dice.choice((string_of(one, 1), [("thing", dice.randrange(2)) for _ in range(4)]))
            other = self.put_together(dice, signs) if seed % 3 else tree_by_chance(dice, 3, thing_by_chance)
            expected = string_of(one, 1) == string_of(other, 1)
            counted[expected] += 1
            self.assertIs(told(walks.alike_by, one, other, 1), expected)
            self.assertIs(walks.alike_by(other, one, 1), expected)
        self.assertTrue(min(counted.values()) > 50, counted)

    def put_together(self, dice, signs):
        """What MAKER 1 makes of signs, in some order."""
        row = [("make", sign[1], tuple(self.put_together(dice, list(part)) for part in sign[2])) if sign[0] == "make" else sign
               for sign in signs]
        while len(row) > 1:
            place = dice.randrange(len(row) - 1)
            row[place:place + 2] = [("make", 1, tuple(row[place:place + 2]))]
        return row[0]

    def test_three_terms_and_other_makers_stay(self):
        three = ("make", 1, (("make", 1, (X, ON)), X, X))
        for one in (X, ON, ("thing", 7), three, ("make", 1, (("make", 1, (X,)), X)), ("make", 1, (three, X)),
                    ("make", 1, (("make", 2, (X, ON)), X)), ("make", 2, (("make", 1, (X, ON)), X))):
            self.assertEqual(walks.combed(one, 1), one)
        self.assertEqual(walks.combed(("make", 3, (("make", 1, (("make", 1, (X, ON)), X)),)), 1),
                         ("make", 3, (("make", 1, (X, ("make", 1, (ON, X)))),)))
        self.assertIs(walks.alike_by(("make", 1, (X, ON)), ("make", 1, (ON, X)), 1), False)
        self.assertIs(walks.alike_by(("make", 1, (X, ON)), ("make", 2, (X, ON)), 1), False)
        # The MAKER that is associative is the one that is told.
        left, right = [("make", 2, own) for own in ((("make", 2, (X, X)), X), (X, ("make", 2, (X, X))))]
        self.assertEqual([walks.alike_by(left, right, maker) for maker in (1, 2, 3)], [False, True, False])

    def test_great_ones(self):
        left = right = ("thing", 0)
        for x in range(1, 101):
            left, right = ("make", 7, (left, ("thing", x))), ("make", 7, (("thing", 100 - x), right))
        right = ("make", 7, (("thing", 0), ("thing", 1)))
        for x in range(2, 101):
            right = self.put_behind(right, ("thing", x))
        self.assertEqual(walks.combed(left, 7), right)
        self.assertIs(walks.alike_by(left, right, 7), True)
        self.assertIs(walks.alike_by(left, right, 6), False)

    def put_behind(self, one, thing):
        """A combed one with thing behind its last thing."""
        firsts = []
        while one[0] == "make":
            firsts.append(one[2][0])
            one = one[2][1]
        made = ("make", 7, (one, thing))
        for first in reversed(firsts):
            made = ("make", 7, (first, made))
        return made


def side_by_chance(dice):
    """A TERM without calls."""
    at = ("at", word_by_chance(dice, 2))
    kind = dice.random()
    return at if kind < 0.5 else ("make", dice.randrange(3), (at,) if kind < 0.7 else (at, ("at", (0,)), X)[:dice.randint(2, 3)])


def spine_by_chance(dice, bars):
    """A spine whose call stands within none to three makings; with some bars if bars, now and then."""
    call = ("call", 0, word_by_chance(dice, 2) + (0,))
    body, maker = call, dice.randrange(3)
    for _ in range(dice.randint(0, 3)):
        terms = [side_by_chance(dice), body]
        if bars and dice.random() < 0.4:
            terms = dice.choice(([body], [side_by_chance(dice), body, side_by_chance(dice)], [body, X, X], [call, body]))
        if dice.random() < 0.5:
            terms.reverse()
        body = ("make", dice.randrange(3) if bars and dice.random() < 0.4 else maker, tuple(terms))
    leaves = [("leaf", side_by_chance(dice)), ("leaf", body)]
    if dice.random() < 0.5:
        leaves.reverse()
    return (("ask", dice.randrange(3), *leaves),)


def ways_to_call(term):
    """All ways to a call in term: each the list of the makings within which it stands, as triples (MAKER, terms left of
    it, terms right of it)."""
    if term[0] == "call":
        return [[]]
    found = []
    for place, part in enumerate(term[2] if term[0] == "make" else ()):
        found += [[(term[1], term[2][:place], term[2][place + 1:])] + way for way in ways_to_call(part)]
    return found


def plain_body(program):
    """The body of a spine; None if program is none."""
    leaves = plain.leaves(program[0])
    if len(program) != 1 or len(leaves) != 2 or sorted(len(plain.calls(leaf)) for leaf in leaves) != [0, 1]:
        return None
    return [leaf for leaf in leaves if plain.calls(leaf)][0]


def plain_bars(program):
    """All BARS of a spine, the first one first."""
    ways = ways_to_call(plain_body(program))
    if len(ways) > 1:
        return [("twice",)]
    found = []
    for place, (maker, lefts, rights) in enumerate(ways[0]):
        found += [("parts", place)] * (len(lefts + rights) != 1) + [("makers", place)] * (maker != ways[0][0][0])
    return found


def plain_sides(program):
    """The SIDES of a spine without BARS."""
    way = ways_to_call(plain_body(program))[0]
    lefts, rights = [tuple(part for making in way for part in making[place]) for place in (1, 2)]
    return (way[0][0] if way else None), lefts, rights


SPINES = [spine_by_chance(chance(seed), seed % 2) for seed in range(600)]
SMOOTH = [program for program in SPINES if not plain_bars(program)]
BARRED = [program for program in SPINES if plain_bars(program)]


class SpinesTest(unittest.TestCase):

    def test_spines(self):
        for program in SPINES + [SPINE, BARE, DOUBLED, ODD]:
            self.assertTrue(is_program(program), program)
            self.assertIs(told(walks.is_spine, program), True)
        for program in NO_SPINES:
            self.assertTrue(is_program(program), program)
            self.assertIs(told(walks.is_spine, program), False)

    def test_programs_by_chance(self):
        many = {True: 0, False: 0}
        for seed in range(1500):
            rules = rules_by_chance(chance(seed), 2)
            if is_program(rules):
                expected = plain_body(rules) is not None
                many[expected] += 1
                self.assertIs(walks.is_spine(rules), expected, rules)
        self.assertTrue(min(many.values()) > 20, many)

    def test_a_call_without_a_step_is_no_spine(self):
        for body in (("call", 0, ()), ("make", 1, (X, ("call", 0, ())))):
            rules = (("ask", 0, ("leaf", X), ("leaf", body)),)
            self.assertIs(is_program(rules), False)
            with self.assertRaises(Ring):
                checked(rules)

    def test_unfit_is_first(self):
        for program in NO_SPINES:
            for function in (walks.sides, walks.walk_bar, walks.walk_loops):
                with self.assertRaises(Unfit):
                    told(function, program)
            for function in (walks.is_sides, walks.is_walk_bar):
                for thing in (None, ("twice",), (None, (), ())):
                    with self.assertRaises(Unfit):
                        told(function, program, thing)

    def test_never_both_never_neither(self):
        self.assertTrue(len(SMOOTH) > 250 and len(BARRED) > 150)
        sizes = {len(ways_to_call(plain_body(program))[0]) for program in SMOOTH}
        self.assertEqual(sizes, {0, 1, 2, 3})
        for program in SPINES:
            bars = plain_bars(program)
            if bars:
                self.assertEqual(told(walks.walk_bar, program), bars[0])
                for function in (walks.sides, walks.walk_loops):
                    with self.assertRaises(CanNot):
                        told(function, program)
            else:
                self.assertEqual(told(walks.sides, program), plain_sides(program))
                self.assertIs(told(walks.is_sides, program, plain_sides(program)), True)
                with self.assertRaises(CanNot):
                    told(walks.walk_bar, program)
        self.assertEqual({plain_bars(program)[0] for program in BARRED} & {("twice",), ("parts", 0), ("makers", 1), ("parts", 2)},
                         {("twice",), ("parts", 0), ("makers", 1), ("parts", 2)})

    def test_all_bars(self):
        every = [("twice",)] + [(kind, place) for kind in ("parts", "makers") for place in range(5)]
        for program in SPINES:
            bars = plain_bars(program)
            for thing in every:
                self.assertIs(walks.is_walk_bar(program, thing), thing in bars, (program, thing))

    def test_parts_ahead_of_makers(self):
        body = ("make", 1, (X, ("make", 2, (ON,))))
        program = (("ask", 0, ("leaf", X), ("leaf", body)),)
        self.assertEqual(walks.walk_bar(program), ("parts", 1))
        self.assertEqual([walks.is_walk_bar(program, (kind, 1)) for kind in ("parts", "makers")], [True, True])
        # The call twice: then there is nothing else.
        program = (("ask", 0, ("leaf", X), ("leaf", ("make", 1, (ON, X, ("make", 2, (ON,)))))),)
        self.assertEqual(walks.walk_bar(program), ("twice",))
        self.assertIs(walks.is_walk_bar(program, ("parts", 0)), False)

    def test_what_is_nearly_sides(self):
        own = (1, (("at", ()),), (("make", 2, (("at", ()),)),))
        self.assertIs(walks.is_sides(SPINE, own), True)
        self.assertIs(walks.is_sides(BARE, (None, (), ())), True)
        for thing in itertools.chain(variants(own), odd_things()):
            self.assertIs(walks.is_sides(SPINE, thing), False, thing)
        for thing in itertools.chain(variants((None, (), ())), odd_things()):
            self.assertIs(walks.is_sides(BARE, thing), False, thing)
        # True is no number, though it is equal to 1.
        ones = (("ask", 0, ("leaf", X), ("leaf", ("make", 1, (("make", 1, (ON, ("make", 1, (("at", (0, 1)),)))), ("at", (1,)))))),)
        for program in (ones, (("ask", 0, ("leaf", X), ("leaf", ("make", 1, (("at", (1,)), ON)))),)):
            found = walks.sides(program)
            self.assertIs(walks.is_sides(program, found), True)
            for thing in variants(found):
                self.assertIs(walks.is_sides(program, thing), False, thing)
        for thing in (own[:2], own + ((),), (1, own[2], own[1]), (2,) + own[1:], (1, own[1] * 2, own[2]), lists(own)):
            self.assertIs(walks.is_sides(SPINE, thing), False, thing)
        for program in BARRED[:60]:
            for thing in (own, (None, (), ()), (1, (), ())):
                self.assertIs(walks.is_sides(program, thing), False)

    def test_what_is_nearly_a_bar(self):
        for program, own in ((DOUBLED, ("twice",)), (ODD, ("makers", 1))):
            self.assertIs(walks.is_walk_bar(program, own), True)
            for thing in itertools.chain(variants(own), odd_things()):
                self.assertIs(walks.is_walk_bar(program, thing), False, thing)
            for thing in ((), own + (0,), own + own, ("makers", True), ("makers", 2), ("parts", 1), ("twice", 0), ("makers",)):
                self.assertIs(walks.is_walk_bar(program, thing), False, thing)


def things_asked(own, meaning, start):
    """The list of the things of which LOOPS ask a TEST in the run from start, each as often as it is asked."""
    stand, found = (0, (("thing", start),) + (None,) * (own[0] - 1), (False,) * own[1]), []
    while True:
        end, (block, cells, ups) = own[2][stand[0]][1], stand
        if end[0] == "ask":
            ahead = own[:2] + (own[2][:block] + ((own[2][block][0], ("stop", end[2])),) + own[2][block + 1:],)
            found.append(plain_block(ahead, meaning, stand)[1])
        told_next = plain_block(own, meaning, stand)
        if told_next[0] != "on":
            return found, told_next
        stand = told_next[1]


def goes_on(dice, many=6):
    """A MEANING whose two STEPS lead to greater things, the last of which ends all, or goes round."""
    steps = tuple(tuple(min(x + dice.randint(1, 2), many - 1) for x in range(many)) for _ in range(2))
    side = dice.random() < 0.5
    return many, steps, (tuple((x >= many - 1 or dice.random() < 0.2) == side for x in range(many)),) * 3


class LoopsTest(unittest.TestCase):

    def check(self, program, meaning):
        """How many things end; the LOOPS do from each of these what they should."""
        own, found = walks.walk_loops(program), walks.sides(program)
        ended = 0
        for start in range(meaning[0]):
            if not plain.ends(program, meaning, (0, start)):
                continue
            ended += 1
            asked, end = things_asked(own, meaning, start)
            value = plain.value(program, meaning, (0, start))
            self.assertEqual(end_of(own, meaning, start), end)
            self.assertEqual(end[0], "stop")
            if found[0] is None:
                self.assertEqual(end[1], value)
            else:
                self.assertIs(walks.alike_by(end[1], value, found[0]), True, (program, meaning, start))
            asks = plain.asks_from(program, meaning, (0, start))
            self.assertEqual(sorted(x for name, x in asks), sorted(x for kind, x in asked))
            self.assertEqual(work(own, meaning, start)[3], len(asks))
        return ended

    def test_they_do_it(self):
        ended, long = 0, 0
        for seed, program in enumerate(SMOOTH):
            own = told(walks.walk_loops, program)
            self.assertIs(is_loops(own), True)
            self.assertEqual(may_fault(own), ())
            most = max(len(parts_in_order(leaf)) for leaf in plain.leaves(program[0]))
            self.assertTrue(own[0] <= 3 + most and own[1] <= 400 and len(own[2]) <= 20000)
            dice = chance(seed)
            for meaning in (meaning_by_chance(dice, 5, 2, 3), goes_on(dice), goes_on(dice)):
                self.assertTrue(is_for(meaning, program))
                ended += self.check(program, meaning)
                long += len(plain.asks_from(program, meaning, (0, 0))) > 3
        self.assertTrue(ended > 2500 and long > 80, (ended, long))

    def test_the_end_on_either_side_and_no_way(self):
        line = (5, ((1, 2, 3, 4, 4), (4, 3, 2, 1, 0)), ((False,) * 4 + (True,),))
        other = line[:2] + ((tuple(not held for held in line[2][0]),),)
        for program, meaning in ((SPINE, line), (BARE, other), ((SPINE[0][:2] + SPINE[0][:1:-1],), other)):
            self.assertTrue(walks.is_spine(program))
            self.assertEqual(self.check(program, meaning), 5)
        self.assertEqual(end_of(walks.walk_loops(BARE), other, 0), ("stop", ("thing", 4)))
        self.assertEqual(end_of(walks.walk_loops(SPINE), line, 4), ("stop", ("thing", 0)))

    def test_far_out(self):
        many = 40
        meaning = (many, (tuple(min(x + 1, many - 1) for x in range(many)),) * 2, ((False,) * (many - 1) + (True,),))
        self.assertEqual(work(walks.walk_loops(SPINE), meaning, 0)[3], many)
        for terms, expected in (((ON, X), range(many - 1, -1, -1)), ((X, ON), range(many))):
            value = end_of(walks.walk_loops((("ask", 0, ("leaf", X), ("leaf", ("make", 1, terms))),)), meaning, 0)[1]
            self.assertEqual([sign[1] for sign in string_of(value, 1)], list(expected))


if __name__ == "__main__":
    unittest.main()
