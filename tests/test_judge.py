"""unwound.judge [22]."""

import itertools
import unittest

from tests import plain
from tests.nests_by_chance import nest_program, path_rules, row_rules, wide_rules
from tests.support import chance, lists, meaning_by_chance, odd_things, rules_by_chance, told, variants
from tests.test_alike import ONE, PAIRS, SHORT, THIRD
from tests.test_growth import MANY_LOTS, PROGRAMS, lots_in_a_row
from tests.test_pebbles import KNOT, SHAPES
from tests.test_walks import NO_SPINES, SPINES
from tests.test_webs import meaning_going_on
from unwound import judge
from unwound.alike import are_alike, is_pairs, is_parting, is_split, parting
from unwound.errors import CanNot, TooMuch, Unfit
from unwound.growth import are_two_rings, two_rings
from unwound.meanings import is_ring
from unwound.pebbles import is_closed, is_play, web_cells
from unwound.programs import is_program
from unwound.rows import is_fork, is_rows
from unwound.walks import is_sides, is_walk_bar

STOP, X = ("leaf", ("make", 0, (("at", ()),))), ("at", ())
DEEP = (("ask", 0, STOP, ("leaf", ("make", 1, (("call", 0, (0,)), ("call", 0, (0, 0)))))),)
CROSS = (("ask", 0, STOP, ("leaf", ("make", 1, (("call", 0, (0, 1)), ("call", 0, (1, 0)))))),)
# Two leaves with own calls: it is wide, and not plain.
UNPLAIN = (("ask", 0, STOP, ("ask", 1, ("leaf", ("call", 0, (0,))), DEEP[0][3])),)
ROW, SPIN = (3, ((1, 2, 2),), ((False, False, True),)), (3, ((1, 0, 2),), ((False, False, True),))
SINGLE = (("ask", 0, ("leaf", X), ("leaf", ("make", 1, (("at", (1,)), ("call", 0, (0,)))))),)
FUNCTIONS = (
    judge.is_so, judge.paper, lambda own: judge.is_paper_for(own, ()), lambda own: judge.is_paper_against(own, ()),
    lambda own: judge.verdicts((own,), (None,)), lambda own: judge.verdicts((("walk", SINGLE), own), ((), ())),
    lambda own: judge.verdicts((own,), ()), lambda own: judge.comes_of(own, ()), lambda own: judge.comes_of(("walk", SINGLE), (own,)),
    lambda own: judge.first_false((own,)), lambda own: judge.first_false((("cells", KNOT, 1), own)))


def wide_homes(program):
    """The wide COMPONENTS that 0 comes to, ascending."""
    names = plain.reached(program)
    return sorted({plain.component(program, name) for name in names if plain.kind(program, name) == "wide"})


def loops_claims(many):
    """CLAIMS of "loops"."""
    found, seed = [("loops", own) for own in (DEEP, CROSS, (STOP,))], 0
    while len(found) < many:
        seed += 1
        program = nest_program(chance(seed), 1, (path_rules, row_rules, wide_rules, row_rules))
        if is_program(program) and all(plain.plain_wide(program, home[0]) for home in wide_homes(program)):
            found.append(("loops", program))
    return found


def ends_claims(many):
    """CLAIMS of "ends"."""
    found, seed = [("ends", DEEP, ROW, 0, 1), ("ends", DEEP, SPIN, 0, 0), ("ends", DEEP, SPIN, 0, 2)], 0
    while len(found) < many:
        seed += 1
        dice = chance(seed)
        program = rules_by_chance(dice, 3) if seed % 3 else DEEP
        if is_program(program):
            meaning = meaning_by_chance(dice, dice.randint(1, 5)) if seed % 2 else meaning_going_on(dice)
            if len(meaning[2]) > max((test for rule in program for test in plain.tests(rule)), default=-1):
                found.append(("ends", program, meaning, dice.randrange(len(program)), dice.randrange(meaning[0])))
    return found


CLAIMS = {
    "loops": loops_claims(70),
    "ends": ends_claims(90),
    "cells": [("cells", shape, many) for shape in SHAPES[-24:] + [KNOT] for many in range(1, 5)],
    "doubles": [("doubles", program) for program in PROGRAMS[:70]],
    "alike": [("alike",) + pair for pair in PAIRS[:60]] + [("alike", ONE, ONE), ("alike", ONE, THIRD)],
    "walk": [("walk", program) for program in SPINES[:80]]}
ALL = [claim for claims in CLAIMS.values() for claim in claims]


def double(program):
    """True if there are TWO RINGS."""
    try:
        two_rings(program)
    except CanNot:
        return False
    return True


def plain_so(claim):
    """Whether claim is so."""
    kind, *parts = claim
    if kind == "loops":
        return all(commuting(parts[0], home) for home in wide_homes(parts[0]))
    if kind == "ends":
        return plain.ends(parts[0], parts[1], tuple(parts[2:]))
    if kind == "cells":
        return web_cells(parts[0]) <= parts[1]
    if kind == "doubles":
        return double(parts[0])
    if kind == "alike":
        return are_alike(*parts)
    return not any(is_walk_bar(parts[0], bar) for bar in bars_to(4))


def commuting(program, home):
    """True if the WORDS of all closed WALKS of a NAME of home, of at most six calls, commute."""
    walks = [((), home[0])]
    words = []
    for _ in range(6):
        walks = [
            (word + more, after) for word, at in walks for calls in plain.own_calls(program, at) for after, more in calls]
        walks = sorted(set(walks))[:3000]
        words += [word for word, at in walks if at == home[0]]
    return all(one + words[0] == words[0] + one for one in words) if words and words[0] else all(
        one + other == other + one for one in words for other in words[:50])


def bars_to(many):
    """All that may be BARS."""
    return [("twice",)] + [(kind, place) for kind in ("parts", "makers") for place in range(many)]


def plain_for(claim, thing):
    """Whether thing is a PAPER for claim."""
    kind, *parts = claim
    if kind == "loops":
        homes = wide_homes(parts[0])
        fits = isinstance(thing, tuple) and len(thing) == len(homes) and all(is_rows(parts[0], own) for own in thing)
        return fits and [own[0] for own in thing] == homes
    if kind == "ends":
        return isinstance(thing, tuple) and thing[-1:] == (tuple(parts[2:]),) and repr(thing[-1]) == repr(tuple(parts[2:])) and in_order(
            parts[0], parts[1], thing)
    if kind == "cells":
        return is_play(parts[0], parts[1], thing)
    if kind == "doubles":
        return are_two_rings(parts[0], thing)
    return is_pairs(*parts, thing) if kind == "alike" else is_sides(parts[0], thing)


def in_order(program, meaning, asks):
    """True if asks are unlike ASKS, each behind all for which it asks."""
    for place, ask in enumerate(asks):
        if not isinstance(ask, tuple) or [number.__class__ for number in ask] != [int, int]:
            return False
        if not 0 <= ask[0] < len(program) or not 0 <= ask[1] < meaning[0] or ask in asks[:place]:
            return False
        if not plain.asked(program, meaning, ask) <= set(asks[:place]):
            return False
    return True


def plain_against(claim, thing):
    """Whether thing is a PAPER against claim."""
    kind, *parts = claim
    if kind == "loops":
        return is_fork(parts[0], thing) and plain.component(parts[0], thing[0]) in wide_homes(parts[0])
    if kind == "ends":
        return is_ring(*parts, thing)
    if kind == "cells":
        return is_closed(*parts, thing)
    if kind == "doubles":
        return repr(thing) == "()" and not double(parts[0])
    return is_split(*parts, thing) or is_parting(*parts, thing) if kind == "alike" else is_walk_bar(parts[0], thing)


def bent_things(thing):
    """Values that differ from thing at one spot, of the same kinds."""
    if isinstance(thing, bool):
        yield not thing
    elif isinstance(thing, int):
        yield from (thing + 1, max(thing - 1, 0))
    elif isinstance(thing, tuple):
        yield thing + thing[:1]
        yield thing[::-1]
        for place, part in enumerate(thing):
            yield thing[:place] + thing[place + 1:]
            yield thing[:place + 1] + thing[place:]
            for other in bent_things(part):
                yield thing[:place] + (other,) + thing[place + 1:]


class ClaimsTest(unittest.TestCase):

    def test_claims(self):
        for claim in ALL:
            self.assertIs(told(judge.is_claim, claim), True, claim)
            self.assertIs(judge.is_claim(lists(claim)), False)

    def test_what_goes_beyond_the_bounds(self):
        deep = X
        for _ in range(40):
            deep = ("make", 10 ** 20, (deep,))
        long = ((),) + tuple((knot,) for knot in range(400))
        for claim in (
                ("cells", KNOT, 10 ** 40), ("cells", long, 1), ("loops", (("leaf", deep),)), ("doubles", (("leaf", deep),) * 90),
                ("alike", (("leaf", deep),), (("leaf", deep),) * 30), ("doubles", lots_in_a_row(5000)), ("doubles", MANY_LOTS),
                ("ends", (("leaf", deep),), (2000, (), ((True,) * 2000,)), 0, 1999),
                ("walk", (("ask", 10 ** 30, ("leaf", deep), ("leaf", ("make", 1, (deep, ("call", 0, (10 ** 9,)))))),))):
            self.assertIs(judge.is_claim(claim), True, claim)

    def test_what_is_nearly_a_claim(self):
        for claim in (
                ("loops", DEEP), ("ends", DEEP, ROW, 0, 1), ("cells", KNOT, 2), ("doubles", CROSS), ("alike", ONE, THIRD), ("walk", SINGLE)):
            self.assertIs(judge.is_claim(claim), True)
            for thing in variants(claim):
                self.assertIs(judge.is_claim(thing), False, thing)
        for thing in odd_things():
            self.assertIs(judge.is_claim(thing), False, thing)

    def test_no_claims(self):
        ring, endless, twice = (("leaf", ("call", 0, ())),), (("leaf", ("make", 0, (("call", 0, (0,)),))),), (DEEP[0], STOP, DEEP[0])
        none = [
            (), ("loops",), ("loops", DEEP, DEEP), ("ends", DEEP), ("cells", KNOT), ("alike", ONE), ("walk", SINGLE, 1), ("play", KNOT, 2),
            ("Loops", DEEP), (DEEP,), ("cells", KNOT, 0), ("cells", KNOT, -1), ("cells", KNOT, True), ("cells", (), 1), ("cells", ((0,),), 1),
            ("cells", ((), ()), 1), ("cells", ((), (0, 0)), 1), ("loops", UNPLAIN), ("loops", (DEEP[0][3],)), ("alike", ONE, SHORT),
            ("alike", SHORT, ONE), ("alike", SHORT, SHORT), ("ends", DEEP, ROW, 1, 0), ("ends", DEEP, ROW, 0, 3), ("ends", DEEP, ROW, 0, -1),
            ("ends", DEEP, ROW, -1, 0), ("ends", DEEP, ROW, False, 0), ("ends", DEEP, (3, (), ROW[2]), 0, 0), ("ends", DEEP, (3, ROW[1], ()), 0, 0),
            ("ends", DEEP, (3, ROW[1], ((0, 0, 1),)), 0, 0), ("ends", DEEP, (0, ROW[1], ROW[2]), 0, 0), ("ends", DEEP, ROW, 0),
            ("ends", ROW, DEEP, 0, 0), ("alike", ONE, THIRD, ONE), ("cells", KNOT, 2, 2), None, 0, "loops", "", [], True]
        for own in (ring, endless, twice, (), (DEEP[0], DEEP[0]), (("leaf", ("call", 1, (0,))),), KNOT):
            none += [("loops", own), ("doubles", own), ("walk", own), ("alike", own, ONE), ("alike", ONE, own), ("ends", own, ROW, 0, 0)]
        none += [("walk", own) for own in NO_SPINES]
        for own in none:
            self.assertIs(judge.is_claim(own), False, own)
            for function in FUNCTIONS:
                with self.assertRaises(Unfit, msg=own):
                    function(own)
                with self.assertRaises(Unfit, msg=own):
                    function(lists(own))
        # What 0 does not come to may be wide and not plain.
        twice = ("leaf", ("make", 1, (("call", 1, (0,)), ("call", 1, (1,)))))
        beside = ("ask", 5, STOP, ("ask", 6, ("leaf", ("call", 1, (0,))), twice))
        self.assertIs(judge.is_claim(("loops", (STOP, beside))), True)
        self.assertIs(judge.is_claim(("loops", (("leaf", ("call", 1, (0,))), beside))), False)


class PapersTest(unittest.TestCase):

    def test_each_claim_has_papers_on_one_side(self):
        counted = {}
        for claim in ALL:
            so = plain_so(claim)
            counted[(claim[0], so)] = counted.get((claim[0], so), 0) + 1
            self.assertIs(told(judge.is_so, claim), so, claim)
            thing = told(judge.paper, claim)
            self.assertIs(plain_for(claim, thing), so)
            self.assertIs(plain_against(claim, thing), not so)
            self.assertIs(told(judge.is_paper_for, claim, thing), so)
            self.assertIs(told(judge.is_paper_against, claim, thing), not so)
            self.assertEqual(told(judge.verdicts, (claim,), (thing,)), ["for" if so else "against"])
        self.assertEqual(len(counted), 12)
        self.assertTrue(min(counted.values()) > 9, counted)

    def check(self, claim, thing):
        """What the judge says of thing is what is told plainly."""
        expected = (plain_for(claim, thing), plain_against(claim, thing))
        self.assertNotEqual(expected, (True, True))
        found = (judge.is_paper_for(claim, thing), judge.is_paper_against(claim, thing))
        self.assertEqual(found, expected, (claim, thing))
        verdict = "for" if expected[0] else "against" if expected[1] else "none"
        self.assertEqual(judge.verdicts((claim,), (thing,)), [verdict])
        return verdict

    def test_papers_that_are_bent(self):
        counted = {}
        for kind, claims in CLAIMS.items():
            for claim in claims[:30]:
                for thing in itertools.islice(bent_things(judge.paper(claim)), 60):
                    key = (kind, self.check(claim, thing))
                    counted[key] = counted.get(key, 0) + 1
        for kind in CLAIMS:
            self.assertGreater(counted.get((kind, "none"), 0), 10, counted)
        # Other ROWS, other PLAYS, CLOSED, TWO RINGS and RINGS are PAPERS, too.
        for key in (("cells", "for"), ("doubles", "for"), ("ends", "for"), ("ends", "against"), ("loops", "against"), ("walk", "against")):
            self.assertGreater(counted.get(key, 0), 0, (key, counted))

    def test_papers_of_a_wrong_kind_within(self):
        for kind, claims in CLAIMS.items():
            for claim in claims[:6] + claims[-2:]:
                for thing in itertools.chain(itertools.islice(variants(judge.paper(claim)), 150), odd_things()):
                    if repr(thing) != "()":
                        self.assertEqual(judge.verdicts((claim,), (thing,)), ["none"], (claim, thing))

    def test_papers_of_other_kinds(self):
        papers = [judge.paper(claim) for claims in CLAIMS.values() for claim in claims[:12]] + [(), parting(ONE, THIRD)]
        for claims in CLAIMS.values():
            for claim in claims[:12]:
                for thing in papers:
                    self.check(claim, thing)

    def test_partings_against_alike(self):
        for _, one, other in CLAIMS["alike"]:
            if not are_alike(one, other):
                self.assertEqual(self.check(("alike", one, other), parting(one, other)), "against")
        meaning, x = parting(ONE, THIRD)
        for thing in ((meaning, meaning[0]), (list(meaning), x), [meaning, x], (meaning,)):
            self.assertEqual(judge.verdicts((("alike", ONE, THIRD),), (thing,)), ["none"])

    def test_order_of_asks(self):
        claim = ("ends", DEEP, ROW, 0, 0)
        for thing, verdict in (
                (((0, 2), (0, 1), (0, 0)), "for"), (((0, 2), (0, 0)), "none"), (((0, 2), (0, 1)), "none"), (((0, 0),), "none"),
                (((0, 1), (0, 2), (0, 0)), "none"), (((0, 2), (0, 1), (0, 0), (0, 0)), "none"), ((), "none"),
                (((0, 2), (0, 1), (0, 2), (0, 0)), "none"), (((0, 2), (0, 1), (0, False)), "none"), (((0, 2), (0, 1), [0, 0]), "none"),
                (((0, 3), (0, 2), (0, 1), (0, 0)), "none"), ([(0, 2), (0, 1), (0, 0)], "none")):
            self.assertEqual(judge.verdicts((claim,), (thing,)), [verdict], thing)
        # ASKS of which it does not come may stand among them, each behind all for which it asks.
        self.assertEqual(self.check(("ends", DEEP, ROW, 0, 1), ((0, 2), (0, 1))), "for")
        self.assertEqual(self.check(("ends", DEEP, ROW, 0, 2), ((0, 2),)), "for")
        two = (("leaf", X), STOP)
        self.assertEqual(self.check(("ends", two, ROW, 0, 0), ((1, 2), (0, 1), (0, 0))), "for")
        self.assertEqual(self.check(("ends", two, ROW, 0, 0), ((2, 2), (0, 1), (0, 0))), "none")

    def test_rows_of_each_component(self):
        lower = (("ask", 1, STOP, ("leaf", ("make", 1, (("call", 1, (1,)), ("call", 1, (1, 1)))))),)
        both = (("ask", 0, ("leaf", ("call", 1, ())), DEEP[0][3]),) + lower
        first, second = ((0,), (0,), (0,)), ((1,), (1,), (0,))
        claim = ("loops", both)
        self.assertEqual(judge.paper(claim), (first, second))
        self.assertEqual(self.check(claim, (first, second)), "for")
        for thing in ((second, first), (first,), (first, second, second), (first, first), [first, second], (first, list(second)), ()):
            self.assertEqual(self.check(claim, thing), "none")
        # A COMPONENT may have other ROWS than the shortest ones.
        even = ("loops", (("ask", 0, STOP, ("leaf", ("make", 1, (("call", 0, (0, 0)), ("call", 0, (0,) * 4))))),))
        for own, verdict in ((((0,), (0,)), "for"), (((0, 0), (0,)), "for"), (((0, 0), (1,)), "for"), (((0,) * 4, (0,)), "none")):
            self.assertEqual(self.check(even, (((0,),) + own,)), verdict)
        # FORKS of a COMPONENT to which 0 does not come say nothing; nor do those of a path.
        fork = (1, ((1, (0, 1)),), ((1, (1, 0)),))
        beside = (STOP, ("ask", 0, STOP, ("leaf", ("make", 1, (("call", 1, (0, 1)), ("call", 1, (1, 0)))))))
        self.assertIs(is_fork(beside, fork), True)
        self.assertEqual(self.check(("loops", beside), fork), "none")
        self.assertEqual(self.check(("loops", beside), ()), "for")
        path = (("ask", 0, STOP, ("ask", 1, ("leaf", ("call", 0, (0,))), ("leaf", ("call", 0, (1,))))),)
        own = (0, ((0, (0,)),), ((0, (1,)),))
        self.assertIs(is_fork(path, own), True)
        self.assertEqual(self.check(("loops", path), own), "none")
        self.assertEqual(self.check(("loops", path), ()), "for")

    def test_just_one_of_loops_and_doubles(self):
        many = 0
        for _, program in CLAIMS["loops"]:
            names = plain.reached(program)
            if all(sum(1 for own in plain.own_calls(program, name) if own) <= 1 for name in names):
                many += 1
                self.assertIs(judge.is_so(("loops", program)), not judge.is_so(("doubles", program)), program)
        self.assertGreater(many, 40)


class ManyTest(unittest.TestCase):

    def test_verdicts(self):
        claims = (("loops", DEEP), ("cells", KNOT, 1), ("walk", SINGLE), ("doubles", DEEP), ("walk", SINGLE))
        things = ((((0,), (0,), (0,)),), ((0,), (1,), (2,)), (1, (("at", (1,)),), ()), (), None)
        expected = ["for", "against", "for", "against", "none"]
        self.assertEqual(told(judge.verdicts, claims, things), expected)
        self.assertEqual(judge.verdicts(claims, list(things)), expected)
        # A list within is a list.
        self.assertEqual(judge.verdicts(claims, lists(things)), ["none"] * 5)
        self.assertEqual(judge.verdicts(things=things, claims=claims), expected)
        # The list belongs to the caller.
        found = judge.verdicts(claims, things)
        found.clear()
        self.assertEqual(judge.verdicts(claims, things), expected)
        self.assertEqual(judge.verdicts((), ()), [])
        self.assertEqual(judge.verdicts([], []), [])

    def test_unlike_many(self):
        much = ("doubles", MANY_LOTS)
        for claims, things in (
                ((), (None,)), ((much,), ()), ((much,), ((), ())), ((("walk", SINGLE),), ()), ((much, ("walk", SINGLE)), (1, 2, 3))):
            with self.assertRaises(Unfit):
                told(judge.verdicts, claims, things)

    def test_too_much_whatever_thing_is(self):
        for program in (MANY_LOTS, lots_in_a_row(401)):
            much = ("doubles", program)
            self.assertIs(judge.is_claim(much), True)
            for function in (judge.is_so, judge.paper):
                with self.assertRaises(TooMuch):
                    told(function, much)
            for thing in (None, (), ((), (0,), (1,)), ((0,) * 12, (0,), (1,) + (0,) * 12)):
                for function in (judge.is_paper_for, judge.is_paper_against):
                    with self.assertRaises(TooMuch):
                        told(function, much, thing)
                for claims in ((much,), (("walk", SINGLE), much), (much, ("walk", SINGLE))):
                    with self.assertRaises(TooMuch):
                        told(judge.verdicts, claims, (thing,) * len(claims))
            with self.assertRaises(Unfit):
                judge.verdicts((much, ("walk", (STOP,))), (None, None))
        self.assertIs(judge.is_so(("doubles", lots_in_a_row(400))), False)

    def test_first_false(self):
        much, so, other = ("doubles", MANY_LOTS), ("loops", DEEP), ("cells", KNOT, 1)
        for claims, place in (
                ((), None), ((so,), None), ((other,), 0), ((so, so, other, so), 2), ((other, other), 0), ((so, other, much), 1), ((other, much), 0)):
            self.assertEqual(told(judge.first_false, claims), place)
        for claims in ((much,), (so, much), (so, much, other)):
            with self.assertRaises(TooMuch):
                told(judge.first_false, claims)
        with self.assertRaises(Unfit):
            judge.first_false((other, much, ("cells", KNOT, 0)))
        with self.assertRaises(Unfit):
            judge.first_false((much, ("cells", KNOT, 0)))
        for seed in range(60):
            claims = tuple(chance(seed).sample(ALL, 5))
            places = [place for place, claim in enumerate(claims) if not plain_so(claim)]
            self.assertEqual(judge.first_false(claims), places[0] if places else None)


def plain_closure(claims):
    """All that comes of claims: of "cells" those of at most 6, of "ends" those of the ASKS of the same things."""
    found = set(claims)
    while True:
        more = {(kind, shape, many + 1) for kind, shape, many in of_kind(found, "cells") if many < 6}
        pairs = of_kind(found, "alike")
        more |= {("alike", other, one) for _, one, other in pairs}
        more |= {("alike", one, third) for _, one, other in pairs for _, own, third in pairs if own == other}
        for program, meaning in {claim[1:3] for claim in claims if claim[0] == "ends"}:
            for ask in itertools.product(range(len(program)), range(meaning[0])):
                asked = [("ends", program, meaning) + own for own in plain.asked(program, meaning, ask)]
                own = ("ends", program, meaning) + ask
                if own in found:
                    more |= set(asked)
                if set(asked) <= found:
                    more.add(own)
        if more <= found:
            return found
        found |= more


def of_kind(claims, kind):
    """Those of claims that are of this kind."""
    return [claim for claim in claims if claim[0] == kind]


class ComesTest(unittest.TestCase):

    def check(self, asked, claims):
        """comes_of of each of asked is what the rules, applied one by one, come to; how many come."""
        closure = plain_closure(claims)
        for claim in asked:
            self.assertIs(judge.comes_of(claim, claims), claim in closure or self.of_itself(claim), (claim, claims))
        return sum(claim in closure for claim in asked)

    def of_itself(self, claim):
        """True for an ASK of which the end comes of no others."""
        return claim[0] == "ends" and plain.ends(claim[1], claim[2], claim[3:])

    def test_cells(self):
        asked = [("cells", shape, many) for shape in (KNOT, SHAPES[5], SHAPES[6]) for many in range(1, 7)]
        for claims in ((), asked[1:2], asked[3:5], asked[8:9] + asked[4:5], asked[13:14] + asked[2:3]):
            self.check(asked, tuple(claims))
        self.assertIs(told(judge.comes_of, ("cells", KNOT, 10 ** 30), (("cells", KNOT, 1),)), True)
        self.assertIs(told(judge.comes_of, ("cells", KNOT, 1), (("cells", KNOT, 2),)), False)

    def test_alike(self):
        programs = [ONE, THIRD] + [pair[0] for pair in PAIRS[:4]]
        asked = [("alike", one, other) for one in programs for other in programs]
        come = 0
        for seed in range(120):
            dice = chance(seed)
            come += self.check(asked, tuple(dice.sample(asked, dice.randint(0, 5))))
        self.assertGreater(come, 600)
        # Nothing comes of nothing, not even that a PROGRAM is alike with itself.
        self.assertIs(judge.comes_of(("alike", ONE, ONE), ()), False)
        self.assertIs(judge.comes_of(("alike", ONE, ONE), (("alike", THIRD, ONE),)), True)
        self.assertIs(told(judge.comes_of, ("alike", ONE, programs[2]), (("alike", THIRD, ONE), ("alike", programs[2], THIRD))), True)

    def test_ends(self):
        come = 0
        for claim in CLAIMS["ends"][:50]:
            _, program, meaning, _, _ = claim
            asked = [("ends", program, meaning) + ask for ask in itertools.product(range(len(program)), range(meaning[0]))]
            for seed in range(6):
                dice = chance(seed)
                come += self.check(asked, tuple(dice.sample(asked, dice.randint(0, min(3, len(asked))))))
        self.assertGreater(come, 800)

    def test_ends_of_false_ones(self):
        asked = [("ends", DEEP, SPIN, 0, x) for x in range(3)]
        self.assertEqual([judge.comes_of(claim, asked[:1]) for claim in asked], [True, True, True])
        self.assertEqual([judge.comes_of(claim, ()) for claim in asked], [False, False, True])
        # By another MEANING, or PROGRAM, nothing comes of them.
        self.assertIs(judge.comes_of(("ends", DEEP, SPIN + (), 0, 1), (("ends", CROSS, (3, SPIN[1] * 2, SPIN[2]), 0, 0),)), False)
        self.assertIs(judge.comes_of(asked[1], (("ends", DEEP, (3, SPIN[1] * 2, SPIN[2]), 0, 0),)), False)

    def test_the_same_and_no_rule(self):
        claims = tuple(claims[0] for claims in CLAIMS.values()) + (("doubles", MANY_LOTS),)
        for claim in claims:
            self.assertIs(told(judge.comes_of, claim, claims), True)
        for claim, others in (
                (("loops", DEEP), (("doubles", DEEP), ("loops", CROSS))), (("doubles", DEEP), (("loops", DEEP), ("doubles", CROSS))),
                (("walk", SINGLE), (("loops", SINGLE), ("walk", SPINES[0]))), (("doubles", MANY_LOTS), ())):
            self.assertIs(told(judge.comes_of, claim, others), False)
            self.assertIs(judge.comes_of(claim, ()), False)
            self.assertIs(judge.comes_of(claim, others + (claim,)), True)


if __name__ == "__main__":
    unittest.main()
