"""unwound.pebbles [10]."""

import itertools
import unittest

from tests.support import chance, odd_things, told, variants
from unwound import pebbles
from unwound.errors import CanNot
from unwound.terms import parts_in_order

KNOT = ((), (0,), (), (1, 2), (0, 3))
FULL = ((), (), (0, 1), (), (), (3, 4), (2, 5))
LONE = ((),)
LINE = ((), (0,), (1,), (2,))
AGAIN = ((0, 0), (1, 0), (2, 1), (3, 0), (0, 1), (4, 0))


def shape_by_chance(dice, many, parts=3):
    """A SHAPE of so many knots, none of which has more than so many parts, if that can be."""
    while True:
        shape = [tuple(sorted(dice.sample(range(knot), min(knot, dice.randint(0, parts))))) for knot in range(many)]
        unused = sorted(set(range(many - 1)) - {part for own in shape for part in own})
        shape[-1] = tuple(sorted({*shape[-1], *unused}))
        if len(shape[-1]) <= max(parts, 1):
            return tuple(shape)


def whole_tree(depth):
    """The SHAPE in which each knot is made of two others, so deep."""
    if depth == 0:
        return LONE
    half = whole_tree(depth - 1)
    many = len(half)
    other = tuple(tuple(part + many for part in parts) for parts in half)
    return half + other + ((many - 1, 2 * many - 1),)


def small_shapes(most):
    """All SHAPES of at most so many knots."""
    for many in range(1, most + 1):
        choices = [[own for size in range(knot + 1) for own in itertools.combinations(range(knot), size)]
                   for knot in range(many)]
        for shape in itertools.product(*choices):
            if {part for parts in shape for part in parts} == set(range(many - 1)):
                yield shape


SHAPES = list(small_shapes(4)) + [
    shape_by_chance(chance(seed), many, most) for many in (5, 6, 7) for seed in range(12) for most in (2, 3)]


def plain_puts(shape, many, sparing):
    """The fewest puts of a PLAY, told by all that may come to lie in the cells; None if there is none."""
    now, met, puts = [((None,) * many, ())], set(), 0
    while now:
        puts, later = puts + 1, []
        for cells, done in now:
            for knot, parts in enumerate(shape):
                if set(parts) <= set(cells) and not (sparing and knot in done):
                    if knot == len(shape) - 1:
                        return puts
                    for cell in range(many):
                        then = tuple(sorted(cells[:cell] + (knot,) + cells[cell + 1:], key=repr))
                        after = (then, tuple(sorted({*done, knot})) if sparing else ())
                        if after not in met:
                            met.add(after)
                            later.append(after)
        now = later
    return None


def plain_play(shape, many, thing):
    """True if thing, a tuple of pairs of numbers, is a PLAY."""
    cells = {}
    for knot, cell in thing:
        if knot >= len(shape) or cell >= many or not set(shape[knot]) <= set(cells.values()):
            return False
        cells[cell] = knot
    return bool(thing) and thing[-1][0] == len(shape) - 1


def plain_closed(shape, many, sets):
    """True if sets are a CLOSED, as [10] says it."""
    top = len(shape) - 1
    if not sets or any(len(own) > many or top in own for own in sets):
        return False
    for own in map(set, sets):
        for knot, parts in enumerate(shape):
            if knot not in own and set(parts) <= own:
                after = [own | {knot}] if len(own) < many else [(own - {gone}) | {knot} for gone in own]
                if not all(any(then <= set(other) for other in sets) for then in after):
                    return False
    return True


def plain_tree(shape, depth, thing):
    """True if thing is a TREE, its ways being tuples of numbers."""
    def ways(tree, left):
        way, trees = tree
        if not way or any(part not in shape[knot] for knot, part in zip(way, way[1:])) or len(trees) != 2 * (left > 0):
            return None
        found = list(way)
        for own in trees:
            below = ways(own, left - 1)
            if below is None or own[0][0] not in shape[way[-1]]:
                return None
            found += below
        return found
    knots = ways(thing, depth)
    return knots is not None and len(set(knots)) == len(knots)


def trees_in(shape, depth, knot, barred=frozenset()):
    """TREES of this depth whose ways begin with knot, some of them."""
    ways = [(knot,)]
    for way in ways:
        ways.extend(way + (part,) for part in shape[way[-1]] if len(ways) < 30)
    for way in ways:
        met = barred | set(way)
        if len(met) < len(barred) + len(way):
            continue
        if depth == 0:
            yield way, ()
        for one, other in itertools.permutations(shape[way[-1]] if depth else (), 2):
            for first in itertools.islice(trees_in(shape, depth - 1, one, met), 3):
                more = met | set(knots_of(first))
                for second in itertools.islice(trees_in(shape, depth - 1, other, more), 3):
                    yield way, (first, second)


def knots_of(tree):
    """The knots that stand in a TREE."""
    return list(tree[0]) + [knot for own in tree[1] for knot in knots_of(own)]


class ShapesTest(unittest.TestCase):

    def test_shapes(self):
        for shape in SHAPES + [LONE, LINE, KNOT, FULL]:
            self.assertTrue(told(pebbles.is_shape, shape))
        self.assertTrue(pebbles.is_shape(tuple(() for _ in range(300)) + (tuple(range(300)),)))

    def test_what_is_no_shape(self):
        for thing in (
                (), [()], ((), ()), ((0,),), ((), (1,)), ((), (0, 0)), ((), (), (1, 0)), ((), (-1,)), ((), (False,)),
                ((), [0]), [(), (0,)], ((), (), (0,)), ((), None), ((), 0), ((), (0,), (0,)), ((), ("0",)),
                ((), (0, None)), ((), ((0,),)), ((), (0, 1))):
            self.assertIs(told(pebbles.is_shape, thing), False, thing)
        for thing in odd_things():
            self.assertIs(pebbles.is_shape(thing), False)
        for shape in (LINE, KNOT, FULL):
            for thing in variants(shape):
                self.assertIs(pebbles.is_shape(thing), False, thing)

    def test_shape_of(self):
        x, call = ("at", ()), ("call", 0, (1,))
        for term, shape in (
                (x, LONE), (call, LONE), (("thing", 4), LONE),
                (("make", 1, (x, x)), ((), (0,))), (("make", 1, (x, call)), ((), (), (0, 1))),
                (("make", 1, (call, ("make", 2, (x, call)))), ((), (), (0, 1), (0, 2))),
                (("make", 1, (("thing", 0), ("make", 1, (("thing", 0), ("thing", 0))))), ((), (0,), (0, 1)))):
            self.assertEqual(told(pebbles.shape_of, term), shape)

    def test_shape_of_by_chance(self):
        for seed in range(100):
            dice = chance(seed)
            made = [("thing", dice.randrange(3))]
            for _ in range(dice.randint(0, 8)):
                made.append(("make", dice.randrange(2), tuple(dice.choice(made) for _ in range(dice.randint(1, 3)))))
            parts = parts_in_order(made[-1])
            shape = pebbles.shape_of(made[-1])
            self.assertTrue(pebbles.is_shape(shape))
            self.assertEqual(len(shape), len(parts))
            for part, own in zip(parts, shape):
                terms = part[2] if part[0] == "make" else ()
                self.assertEqual(set(own), {parts.index(term) for term in terms})

    def test_shape_of_what_nests_deep(self):
        value = ("thing", 0)
        for _ in range(3000):
            value = ("make", 0, (value,))
        self.assertEqual(pebbles.shape_of(value)[-2:], ((2998,), (2999,)))


class PlaysTest(unittest.TestCase):

    def test_fewest_puts_and_cells(self):
        for shape in SHAPES:
            puts = [plain_puts(shape, many, False) for many in range(1, 5)]
            for many, own in enumerate(puts, 1):
                if own is None:
                    with self.assertRaises(CanNot):
                        pebbles.fewest_puts(shape, many)
                else:
                    self.assertEqual(pebbles.fewest_puts(shape, many), own)
            fewest = [many for many, own in enumerate(puts, 1) if own is not None]
            if fewest:
                self.assertEqual(pebbles.web_cells(shape), fewest[0])
            else:
                self.assertGreater(pebbles.web_cells(shape), 4)

    def test_sparing_cells(self):
        for shape in SHAPES:
            many = pebbles.sparing_cells(shape)
            if many < 5:
                self.assertIsNotNone(plain_puts(shape, many, True), shape)
            for fewer in range(1, min(many, 5)):
                self.assertIsNone(plain_puts(shape, fewer, True), shape)

    def test_plays(self):
        for shape in SHAPES + [LONE, LINE, KNOT, FULL]:
            many, sparing = pebbles.web_cells(shape), pebbles.sparing_cells(shape)
            play, spare = pebbles.web_play(shape), pebbles.sparing_play(shape)
            self.assertTrue(plain_play(shape, many, play) and pebbles.is_play(shape, many, play))
            self.assertTrue(plain_play(shape, sparing, spare) and pebbles.is_sparing(shape, sparing, spare))
            self.assertEqual(sorted(knot for knot, cell in spare), list(range(len(shape))))
            self.assertFalse(pebbles.is_play(shape, many - 1, play) if many > 1 else False)
            self.assertLessEqual(many, sparing)

    def test_in_all_ways(self):
        for shape in (LONE, KNOT, FULL):
            for function in (pebbles.web_cells, pebbles.web_play, pebbles.sparing_cells, pebbles.sparing_play):
                told(function, shape)
            told(pebbles.fewest_puts, shape, 3)
            told(pebbles.is_play, shape, 3, pebbles.web_play(shape))
            told(pebbles.is_sparing, shape, 3, pebbles.sparing_play(shape))
            told(pebbles.is_closed, shape, 1, ((), (0,)))
            told(pebbles.is_tree, shape, 0, ((0,), ()))
        told(pebbles.closed_sets, KNOT, 1)
        for function in (pebbles.fewest_puts, pebbles.closed_sets):
            with self.assertRaises(CanNot):
                told(function, FULL, 2 if function is pebbles.fewest_puts else 3)

    def test_is_play_by_chance(self):
        right = 0
        for seed in range(600):
            dice = chance(seed)
            shape = dice.choice(SHAPES)
            many = pebbles.web_cells(shape) + dice.randint(0, 1)
            play = list(dice.choice((pebbles.web_play, pebbles.sparing_play))(shape))
            for _ in range(dice.randint(0, 2)):
                place = dice.randrange(len(play))
                if dice.random() < 0.3:
                    play.insert(place, play[dice.randrange(len(play))])
                elif dice.random() < 0.5 and len(play) > 1:
                    del play[place]
                else:
                    play[place] = (dice.randrange(len(shape) + 1), dice.randrange(many + 1))
            play = tuple(play)
            expected = plain_play(shape, many, play)
            right += expected
            self.assertIs(pebbles.is_play(shape, many, play), expected)
            knots = [knot for knot, cell in play]
            self.assertIs(pebbles.is_sparing(shape, many, play), expected and len(set(knots)) == len(knots))
        self.assertTrue(150 < right < 500, right)

    def test_what_is_nearly_a_play(self):
        for function, shape, play in (
                (pebbles.is_play, KNOT, AGAIN), (pebbles.is_sparing, KNOT, pebbles.sparing_play(KNOT))):
            for thing in itertools.chain(variants(play), odd_things()):
                self.assertIs(function(shape, 3, thing), False, thing)
            self.assertIs(function(shape, 3, ()), False)
            self.assertIs(function(shape, 3, play + ((0, 0),)), False)
            self.assertIs(function(shape, 3, play[:-1]), False)
        self.assertIs(pebbles.is_play(LONE, 1, ((0, 0), (0, 0))), True)
        self.assertIs(pebbles.is_sparing(LONE, 1, ((0, 0), (0, 0))), False)
        self.assertIs(pebbles.is_play(LONE, 10 ** 9, ((0, 10 ** 9 - 1),)), True)
        self.assertIs(pebbles.is_play(LONE, 1, ((0, 0),) * 5000), True)
        self.assertIs(pebbles.is_play(((), (0,)), 1, ((0, 0), (1, 0), (0, 0), (1, 0))), True)

    def test_the_rule_from_below(self):
        for seed in range(60):
            dice = chance(seed)
            shape, ends = [], []
            while len(shape) < dice.randint(3, 10) or len(ends) > 1:
                taken = dice.sample(range(len(ends)), dice.randint(0, min(3, len(ends))))
                shape.append(tuple(sorted(ends[place] for place in taken)))
                ends = [end for place, end in enumerate(ends) if place not in taken] + [len(shape) - 1]
            cells = []
            for parts in shape:
                fewest = sorted((cells[part] for part in parts), reverse=True)
                cells.append(max([1] + [many + place for place, many in enumerate(fewest)]))
            self.assertEqual(pebbles.web_cells(tuple(shape)), cells[-1])
            self.assertEqual(pebbles.sparing_cells(tuple(shape)), cells[-1])

    def test_twelve_knots(self):
        for seed in range(8):
            shape = shape_by_chance(chance(seed), 12)
            many = pebbles.web_cells(shape)
            self.assertTrue(plain_play(shape, many, pebbles.web_play(shape)))
            self.assertTrue(pebbles.is_sparing(shape, pebbles.sparing_cells(shape), pebbles.sparing_play(shape)))
            self.assertGreaterEqual(pebbles.fewest_puts(shape, many), 12)
            if many > 1:
                self.assertTrue(plain_closed(shape, many - 1, pebbles.closed_sets(shape, many - 1)))
        wide = ((),) * 11 + (tuple(range(11)),)
        self.assertEqual((pebbles.web_cells(wide), pebbles.sparing_cells(wide)), (11, 11))
        self.assertEqual(len(pebbles.closed_sets(wide, 6)), 462)


class ClosedTest(unittest.TestCase):

    def test_a_play_or_a_closed(self):
        for shape in SHAPES:
            for many in range(1, 6):
                if pebbles.web_cells(shape) <= many:
                    with self.assertRaises(CanNot):
                        pebbles.closed_sets(shape, many)
                else:
                    closed = pebbles.closed_sets(shape, many)
                    self.assertTrue(plain_closed(shape, many, closed))
                    self.assertIs(told(pebbles.is_closed, shape, many, closed), True)

    def test_all_closed_of_small_shapes(self):
        for shape in small_shapes(4):
            sets = [own for size in range(len(shape)) for own in itertools.combinations(range(len(shape) - 1), size)]
            for many in (1, 2):
                found = False
                for size in range(1, len(sets) + 1):
                    for thing in itertools.combinations(sorted(sets), size):
                        expected = plain_closed(shape, many, thing)
                        self.assertIs(pebbles.is_closed(shape, many, thing), expected)
                        found = found or expected
                self.assertIs(found, pebbles.web_cells(shape) > many)

    def test_is_closed_by_chance(self):
        right = 0
        for seed in range(300):
            dice = chance(seed)
            shape = dice.choice([own for own in SHAPES if pebbles.web_cells(own) > 2])
            closed = {tuple(own) for own in pebbles.closed_sets(shape, 2)} | {()}
            if dice.random() < 0.5:
                closed.add(tuple(sorted(dice.sample(range(len(shape)), dice.randint(0, 3)))))
            if dice.random() < 0.5:
                closed.discard(dice.choice(sorted(closed)))
            thing = tuple(sorted(closed))
            expected = plain_closed(shape, 2, thing)
            right += expected
            self.assertIs(pebbles.is_closed(shape, 2, thing), expected)
        self.assertTrue(80 < right < 250, right)

    def test_what_is_nearly_a_closed(self):
        closed = pebbles.closed_sets(FULL, 2)
        for thing in itertools.chain(variants(closed), odd_things()):
            self.assertIs(pebbles.is_closed(FULL, 2, thing), False, thing)
        for thing in ((), closed[::-1], closed + closed[-1:], closed[1:] + closed[:1], (), ((),), ((6,),), ((0, 1, 2),)):
            self.assertIs(pebbles.is_closed(FULL, 2, thing), False)
        self.assertIs(pebbles.is_closed(KNOT, 1, ((0,), (1,), (2,))), True)
        self.assertIs(pebbles.is_closed(KNOT, 1, ((), (0,), (1,), (2,))), True)
        self.assertIs(pebbles.is_closed(KNOT, 1, ((0,), (1,), (2,), (3,))), True)
        self.assertIs(pebbles.is_closed(KNOT, 1, ((0,), (1,), (2,), (4,))), False)
        self.assertIs(pebbles.is_closed(KNOT, 1, ((0,), (1,), (2, 1))), False)


class TreesTest(unittest.TestCase):

    def test_trees(self):
        for depth in range(5):
            shape = whole_tree(depth)
            tree = next(trees_in(shape, depth, len(shape) - 1))
            self.assertIs(told(pebbles.is_tree, shape, depth, tree), True)
            self.assertIs(pebbles.is_tree(shape, depth + 1, tree), False)
            self.assertIs(pebbles.is_tree(shape, 10 ** 30, tree), False)
            if depth:
                self.assertIs(pebbles.is_tree(shape, depth - 1, tree), False)
            if 0 < depth < 4:
                self.assertGreater(pebbles.sparing_cells(shape), depth)
                with self.assertRaises(CanNot):
                    pebbles.fewest_puts(shape, depth)

    def test_very_many_knots(self):
        shape = whole_tree(10)
        self.assertIs(pebbles.is_tree(shape, 10, next(trees_in(shape, 10, len(shape) - 1))), True)
        row = ((),) + tuple((knot,) for knot in range(3000))
        self.assertIs(pebbles.is_tree(row, 0, (tuple(range(3000, -1, -1)), ())), True)

    def test_trees_by_chance(self):
        right, many = 0, 0
        for seed in range(200):
            dice = chance(seed)
            shape = shape_by_chance(dice, dice.randint(5, 9))
            for depth in (0, 1, 2):
                for tree in itertools.islice(trees_in(shape, depth, dice.randrange(len(shape))), 4):
                    self.assertIs(pebbles.is_tree(shape, depth, tree), True)
                    self.assertGreater(pebbles.web_cells(shape), depth)
                    bent = self.bent(dice, tree, len(shape))
                    expected = plain_tree(shape, depth, bent)
                    right, many = right + expected, many + 1
                    self.assertIs(pebbles.is_tree(shape, depth, bent), expected, (shape, depth, bent))
        self.assertTrue(many > 400 and 0.1 < right / many < 0.8, (right, many))

    def bent(self, dice, tree, knots):
        """tree with another knot, a knot less or more, or TREES in another order, somewhere."""
        way, trees = tree
        if trees and dice.random() < 0.6:
            place = dice.randrange(2)
            own = self.bent(dice, trees[place], knots)
            return way, trees[:place] + (own,) + trees[place + 1:]
        kind, place = dice.randrange(4), dice.randrange(len(way))
        if kind == 0:
            return way, trees[::-1]
        if kind == 1:
            return way[:place] + way[place + 1:], trees
        return way[:place] + (dice.randrange(knots),) + way[place + (kind == 2):], trees

    def test_no_knot_twice(self):
        twice = ((), (0,), (0,), (1, 2))
        self.assertIs(pebbles.is_tree(twice, 1, ((3,), (((1,), ()), ((2,), ())))), True)
        self.assertIs(pebbles.is_tree(twice, 1, ((3,), (((1, 0), ()), ((2, 0), ())))), False)
        self.assertIs(pebbles.is_tree(twice, 1, ((3,), (((1,), ()), ((1,), ())))), False)
        self.assertIs(pebbles.is_tree(twice, 1, ((3,), (((1,), ()), ((0,), ())))), False)
        self.assertIs(pebbles.is_tree(twice, 0, ((0,), ())), True)

    def test_what_is_nearly_a_tree(self):
        tree = ((6,), (((2,), ()), ((5, 3), ())))
        for thing in itertools.chain(variants(tree), odd_things()):
            self.assertIs(pebbles.is_tree(FULL, 1, thing), False, thing)
        for thing in (((), tree[1]), (tree[0], tree[1][:1]), (tree[0], tree[1] + tree[1][:1]), tree[:1], tree + ((),),
                      ((7,), ()), ((6,), (((2,),), ((5, 3), ())))):
            self.assertIs(pebbles.is_tree(FULL, 1, thing), False, thing)
        self.assertIs(pebbles.is_tree(FULL, 0, ((6,), ())), True)
        for knot in (7, 8, 10 ** 20):
            self.assertIs(pebbles.is_tree(FULL, 0, ((knot,), ())), False)
        shared = ((0,), ())
        for _ in range(45):
            shared = ((0,), (shared, shared))
        self.assertIs(pebbles.is_tree(FULL, 45, shared), False)


if __name__ == "__main__":
    unittest.main()
