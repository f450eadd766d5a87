"""unwound.trees [16]."""

import itertools
import unittest
import unittest.mock

from tests import plain
from tests.nests_by_chance import nest_program, path_rules, row_rules, wide_rules
from tests.support import chance, meaning_by_chance, odd_things, rules_by_chance, told, variants, word_by_chance
from tests.test_loops import loops_by_chance
from unwound import branching, trees
from unwound.errors import CanNot, NoPlace, TooMuch, Unfit
from unwound.loops import end_of
from unwound.meanings import answer, answer_parts, is_for, is_meaning
from unwound.pebbles import is_tree, shape_of, web_cells
from unwound.programs import is_program
from unwound.rows import barred, can_loop

ENDING, STILL = ("leaf", ("make", 0, (("at", ()),))), ("leaf", ("at", ()))
BOTH_WAYS = (("ask", 0, ENDING, ("leaf", ("make", 1, (("call", 0, (0, 1)), ("call", 0, (1, 0)))))),)
TWICE = (("ask", 0, ENDING, ("leaf", ("make", 1, (("call", 0, (0,)), ("call", 0, (0, 0)))))),)
TWO_NAMES = (
    ("ask", 3, ("leaf", ("make", 1, (("make", 2, (("at", ()), ("call", 1, ()))), ("call", 1, (1,))))), STILL),
    ("ask", 1, STILL, ("leaf", ("make", 3, (("call", 0, (0,)), ("at", (1,)))))))
# Both calls lead to one VALUE, whose parts are the ones that are apart.
TWINS = (
    ("ask", 0, STILL, ("leaf", ("make", 2, (("call", 1, ()), ("call", 2, ()))))),
    ("ask", 1, STILL, ("leaf", ("make", 1, (("call", 0, (0,)), ("call", 0, (1,)))))),
    ("ask", 2, STILL, ("leaf", ("make", 1, (("call", 0, (0,)), ("call", 0, (1,)))))))
# The WORD of the one call begins with that of the other.
BEGUN = (("ask", 0, STILL, ("leaf", ("make", 1, (("call", 0, (0,)), ("call", 0, (0, 1)))))),)
NESTED = (
    ("ask", 5, ("leaf", ("make", 4, (("call", 0, (1,)), ("call", 2, (0,))))), ENDING),
    ("ask", 6, STILL, ("leaf", ("call", 2, ()))),
    ("ask", 0, ENDING, ("leaf", ("make", 1, (("call", 2, (0, 1)), ("call", 2, (1, 0)), ("call", 3, ()))))),
    ("ask", 7, STILL, ("leaf", ("call", 3, (0,)))))
NOT_PLAIN = (("ask", 0, STILL, ("ask", 1, ("leaf", ("call", 0, (0,))), ("leaf", ("make", 1, (("call", 0, (0,)), ("call", 0, (1,))))))),)
LONE = (((0, (), 1),), ((4,), (((1,), ()), ((3,), ()))))


def plain_ends_by(program):
    """The leaf that each NAME ends by."""
    ends = {}
    while len(ends) < len(program):
        found = {}
        for name, rule in enumerate(program):
            free = [place for place, leaf in enumerate(plain.leaves(rule)) if all(other in ends for other, _ in plain.calls(leaf))]
            if name not in ends and free:
                found[name] = free[0]
        ends.update(found)
    return tuple(ends[name] for name in range(len(program)))


def plain_goes(program, turns, name, word):
    """The place of the leaf to which name goes at word."""
    for turn in turns:
        if turn[:2] == (name, word):
            return turn[2]
    return plain_ends_by(program)[name]


def plain_words(program, turns, name=0, word=()):
    """The WORDS at which something is asked from (name, word) on, and those of things, all with their beginnings."""
    leaf = plain.leaves(program[name])[plain_goes(program, turns, name, word)]
    ends = {word} | {word + own for own in plain.words(leaf)}
    found = {end[:many] for end in ends for many in range(len(end) + 1)}
    return found.union(*[plain_words(program, turns, called, word + own) for called, own in plain.calls(leaf)])


def plain_meaning(program, turns):
    """The free MEANING."""
    words = sorted(plain_words(program, turns), key=lambda word: (len(word), word))
    all_steps = [step for rule in program for leaf in plain.leaves(rule) for word in plain.words(leaf) for step in word]
    steps = tuple(
        tuple(words.index(word + (step,)) if word + (step,) in words else len(words) for word in words) + (len(words),)
        for step in range(max(all_steps, default=-1) + 1))
    own = {test: name for name, rule in enumerate(program) for test in plain.tests(rule)}
    tests = []
    for test in range(max(own, default=-1) + 1):
        held = []
        for word in words + [None]:
            if test in own:
                number = plain_goes(program, turns if word is not None else (), own[test], word)
                held.append(yes_side(program[own[test]], test, number))
            else:
                held.append(False)
        tests.append(tuple(held))
    return len(words) + 1, steps, tuple(tests)


def yes_side(rule, test, number):
    """True if the leaf of this number is on the yes side of test."""
    if rule[0] == "leaf":
        return False
    many = len(plain.leaves(rule[2]))
    if rule[1] == test:
        return number < many
    return yes_side(rule[2], test, number) if number < many else yes_side(rule[3], test, number - many)


def turns_by_chance(dice, program, most=6):
    """TURNS, many of them at WORDS at which something is asked."""
    turns = {}
    for _ in range(dice.randint(0, most)):
        asked = sorted(plain_words(program, tuple(key + (turns[key],) for key in turns)))
        word = dice.choice(asked) if dice.random() < 0.8 else word_by_chance(dice, 3)
        name = dice.randrange(len(program))
        turns[(name, word)] = dice.randrange(len(plain.leaves(program[name])))
    return tuple(sorted(key + (turns[key],) for key in turns))


def barred_programs(seed, many):
    """PROGRAMS, plain as far as 0 comes, with a wide COMPONENT that has no ROWS."""
    dice, found = chance(seed), [BOTH_WAYS, TWO_NAMES, TWINS, BEGUN, NESTED]
    while len(found) < many:
        program = nest_program(dice, 1, (wide_rules, wide_rules, path_rules, row_rules))
        if is_program(program) and not can_loop(program):
            found.append(program)
    return found


PROGRAMS = [own for own in map(rules_by_chance, map(chance, range(400))) if is_program(own)][:120]
BARRED = barred_programs(21, 90)


class FreeTest(unittest.TestCase):

    def test_ends_by(self):
        for program in PROGRAMS + BARRED:
            self.assertEqual(told(trees.ends_by, program), plain_ends_by(program))

    def test_rounds(self):
        # NAME 0 calls 1, which has its leaf in the same round, but not ahead of it.
        program = (
            ("ask", 0, ("leaf", ("call", 1, (0,))), ("leaf", ("make", 0, (("at", ()),)))), ("ask", 1, ("leaf", ("call", 0, ())), STILL),
            ("ask", 2, ("leaf", ("call", 0, ())), ("leaf", ("call", 3, ()))), ("leaf", ("call", 2, (0,))))
        self.assertIs(is_program(program[:2]), True)
        self.assertEqual(trees.ends_by(program[:2]), (1, 1))
        self.assertEqual(trees.ends_by(program), (1, 1, 0, 0))
        self.assertEqual(trees.ends_by((("leaf", ("call", 1, ())), ("leaf", ("call", 2, ())), STILL)), (0, 0, 0))

    def test_words_and_meanings(self):
        things = 0
        for seed, program in enumerate(PROGRAMS + BARRED):
            dice = chance(seed)
            for _ in range(2):
                turns = turns_by_chance(dice, program)
                words = trees.free_words(program, turns)
                self.assertEqual(words, tuple(sorted(plain_words(program, turns), key=lambda word: (len(word), word))))
                meaning = trees.free_meaning(program, turns)
                self.assertEqual(meaning, plain_meaning(program, turns), (program, turns))
                self.assertTrue(is_meaning(meaning) and is_for(meaning, program))
                things += meaning[0]
                # By its TESTS each NAME goes as TURNS tell, at each of the words.
                for place, word in enumerate(words):
                    for name in range(len(program)):
                        self.assertEqual(
                            plain.leaf_number(program[name], meaning, place), plain_goes(program, turns, name, word))
        self.assertGreater(things, 1500)

    def test_in_all_ways(self):
        turns = ((0, (), 0), (1, (0,), 1), (1, (0, 0), 0))
        for function in (trees.free_words, trees.free_meaning):
            told(function, TWO_NAMES, turns)
            told(function, BOTH_WAYS, ())
        told(trees.answer_shape, BOTH_WAYS, trees.free_meaning(BOTH_WAYS, ((0, (), 1),)), 0)
        told(trees.tree_paper, TWO_NAMES, 2)
        told(trees.is_tree_paper, BOTH_WAYS, 1, LONE)
        told(trees.fails, BOTH_WAYS, (1, 0, (((), ("stop", 0)),)), ())

    def test_as_few_tables_as_the_program_takes(self):
        program = (("ask", 2, STILL, ("leaf", ("at", (1, 3)))), ("ask", 4, STILL, ("leaf", ("at", (5,)))))
        meaning = trees.free_meaning(program, ((0, (), 1), (0, (9,), 1)))
        self.assertEqual((meaning[0], len(meaning[1]), len(meaning[2])), (4, 6, 5))
        self.assertEqual(meaning[2][:3], ((False,) * 4, (False,) * 4, (False, True, True, True)))
        self.assertEqual(trees.free_meaning((STILL,), ()), (2, (), ()))

    def test_far_turns(self):
        turns = tuple((0, (0,) * many, 1) for many in range(12))
        down = (("ask", 0, STILL, ("leaf", ("make", 1, (("call", 0, (0,)),)))),)
        self.assertEqual(trees.free_words(down, turns), tuple((0,) * many for many in range(13)))
        self.assertEqual(trees.free_words(down, turns[1:]), ((),))
        self.assertEqual(len(trees.free_words(down, ((0, (0,) * 60, 1),))), 1)


class ShapesTest(unittest.TestCase):

    def test_by_chance(self):
        told_ones = 0
        for seed, program in enumerate(PROGRAMS + BARRED):
            meaning = meaning_by_chance(chance(seed), 4)
            for start in range(4):
                if not plain.ends(program, meaning, (0, start)):
                    with self.assertRaises(CanNot):
                        trees.answer_shape(program, meaning, start)
                    continue
                told_ones += 1
                try:
                    value = answer(program, meaning, 0, start)
                except TooMuch:
                    continue
                self.assertEqual(trees.answer_shape(program, meaning, start), shape_of(value))
        self.assertGreater(told_ones, 100)

    def test_free_meanings(self):
        for seed, program in enumerate(BARRED):
            meaning = trees.free_meaning(program, turns_by_chance(chance(seed), program))
            if answer_parts(program, meaning, 0, 0) < 2000:
                self.assertEqual(trees.answer_shape(program, meaning, 0), shape_of(answer(program, meaning, 0, 0)))

    def test_very_great_answers(self):
        line = (40, (tuple(min(x + 1, 39) for x in range(40)),), ((False,) * 39 + (True,),))
        doubled = (("ask", 0, STILL, ("leaf", ("make", 1, (("call", 0, (0,)),) * 5))),)
        self.assertGreater(answer_parts(doubled, line, 0, 0), 10 ** 20)
        self.assertEqual(trees.answer_shape(doubled, line, 0), ((),) + tuple((knot,) for knot in range(39)))
        shape = trees.answer_shape(TWICE, line, 0)
        self.assertEqual((len(shape), web_cells(shape[:12])), (41, 2))

    def test_errors_in_their_order(self):
        meaning = (2, ((1, 0),), ((False, False),))
        for own, start, error in (((2, (), meaning[2]), 9, Unfit), (meaning, 2, NoPlace), (meaning, 0, CanNot)):
            with self.assertRaises(error) as caught:
                told(trees.answer_shape, TWICE, own, start)
            if error is NoPlace:
                self.assertEqual(caught.exception.place, 2)


class PapersTest(unittest.TestCase):

    def check_paper(self, program, depth, paper):
        """paper is a TREE PAPER, told plainly."""
        turns, tree = paper
        self.assertEqual(turns, tuple(sorted(set(turns))))
        self.assertEqual(len({turn[:2] for turn in turns}), len(turns))
        for name, word, leaf in turns:
            self.assertTrue(name < len(program) and leaf < len(plain.leaves(program[name])))
        meaning = trees.free_meaning(program, turns)
        self.assertIs(is_tree(trees.answer_shape(program, meaning, 0), depth, tree), True)

    def test_papers(self):
        for program in BARRED:
            for depth in range(4):
                paper = trees.tree_paper(program, depth)
                self.check_paper(program, depth, paper)
                self.assertIs(trees.is_tree_paper(program, depth, paper), True)
                self.assertIs(trees.is_tree_paper(program, depth + 1, paper), False)
                if depth:
                    self.assertIs(trees.is_tree_paper(program, depth - 1, paper), False)

    def test_papers_from_forks_alone(self):
        with unittest.mock.patch.object(branching, "MOST_CALLS", 0):
            for program in BARRED[:30]:
                for depth in (1, 2):
                    paper = trees.tree_paper(program, depth)
                    self.check_paper(program, depth, paper)
                    self.assertIs(trees.is_tree_paper(program, depth, paper), True)

    def test_answers_that_can_be_told_are_taken(self):
        program = nest_program(chance(11781), 2, (wide_rules, wide_rules, path_rules, row_rules))
        search = branching.Branchings(program, barred(program))
        sizes = [search.of_size(size) for size in range(2, 2 * branching.MOST_CALLS + 2)]
        first = [own for of_size in sizes for own in of_size][0]
        turns = search.turns(first, 3)
        self.assertGreater(answer_parts(program, trees.free_meaning(program, turns), 0, 0), 2000)
        paper = trees.tree_paper(program, 3)
        self.check_paper(program, 3, paper)
        answer(program, trees.free_meaning(program, paper[0]), 0, 0)
        # If there is none, the paper is one all the same.
        with unittest.mock.patch.object(trees, "MOST_BRANCHINGS", 1):
            paper = trees.tree_paper(program, 3)
            self.assertEqual(paper[0], turns)
            self.check_paper(program, 3, paper)

    def test_papers_are_short(self):
        for program, one in ((BOTH_WAYS, 1), (TWO_NAMES, 3), (BEGUN, 3), (TWINS, 3), (NESTED, 1)):
            many = [len(trees.tree_paper(program, depth)[0]) for depth in range(4)]
            self.assertLessEqual(many[3] - many[0], 7 * one, program)
        self.assertEqual([len(trees.tree_paper(BOTH_WAYS, depth)[0]) for depth in range(4)], [0, 1, 3, 7])

    def test_short_walks_alone_are_compared(self):
        # The first two that part are taken; no further ones are told.
        for program, most in ((BOTH_WAYS, 1), (TWO_NAMES, 3), (BEGUN, 10)):
            for depth in range(4):
                with unittest.mock.patch.object(branching, "first_apart", wraps=branching.first_apart) as compared:
                    trees.tree_paper(program, depth)
                self.assertLessEqual(compared.call_count, most, program)

    def test_no_play_with_so_few_cells(self):
        for program in (BOTH_WAYS, TWO_NAMES, BEGUN):
            for depth in (1, 2):
                turns, tree = trees.tree_paper(program, depth)
                shape = trees.answer_shape(program, trees.free_meaning(program, turns), 0)
                if len(shape) < 16:
                    self.assertGreater(web_cells(shape), depth)

    def test_errors_in_their_order(self):
        rowed_and_not_plain = (("leaf", ("make", 0, (("call", 1, ()), ("call", 2, ())))),) + (
            ("ask", 5, STILL, ("leaf", ("make", 1, (("call", 1, (0,)), ("call", 1, (1,)))))),
            ("ask", 0, STILL, ("ask", 1, ("leaf", ("call", 2, (0,))), ("leaf", ("make", 1, (("call", 2, (0,)), ("call", 2, (0, 0))))))))
        for program, error in ((NOT_PLAIN, Unfit), (rowed_and_not_plain, Unfit), (TWICE, CanNot), ((STILL,), CanNot)):
            self.assertTrue(is_program(program))
            for depth in range(3):
                with self.assertRaises(error):
                    told(trees.tree_paper, program, depth)
        self.assertEqual(barred((STILL,) + BOTH_WAYS[:0]), [])

    def test_what_is_nearly_a_paper(self):
        self.assertIs(trees.is_tree_paper(BOTH_WAYS, 1, LONE), True)
        turns, tree = LONE
        for thing in itertools.chain(variants(LONE), odd_things()):
            self.assertIs(trees.is_tree_paper(BOTH_WAYS, 1, thing), False, thing)
        for thing in (
                (turns * 2, tree), (((0, (), 0), (0, (), 1)), tree), (((0, (), 2),), tree), (((1, (), 0),), tree), ((), tree),
                (((0, (0,), 1), (0, (), 1)), tree), (turns, tree, ()), (turns,), (((0, (), 0),), tree),
                (turns, ((4,), (((1,), ()), ((1,), ())))), (turns, ((4,), (((1,), ()), ((2,), ()))))):
            self.assertIs(trees.is_tree_paper(BOTH_WAYS, 1, thing), False, thing)
        for depth in (0, 2, 10 ** 20):
            self.assertIs(trees.is_tree_paper(BOTH_WAYS, depth, LONE), False)
        # TURNS at which nothing is asked, far ones and many, change nothing.
        more = turns + tuple((0, (0,) * many, 1) for many in range(1, 200))
        self.assertIs(trees.is_tree_paper(BOTH_WAYS, 1, (tuple(sorted(more)), tree)), True)

    def test_bent_by_chance(self):
        right = many = 0
        for seed, program in enumerate(BARRED):
            dice = chance(seed)
            turns, tree = trees.tree_paper(program, 2)
            for _ in range(4):
                place = dice.randrange(len(turns))
                name, word, leaf = turns[place]
                kind = dice.randrange(3)
                own = turns[:place] + turns[place + 1:]
                if kind == 1:
                    own = turns[:place] + ((name, word, dice.randrange(len(plain.leaves(program[name])))),) + turns[place + 1:]
                elif kind == 2:
                    own = tuple(sorted(dict((turn[:2], turn) for turn in own + ((name, word + (0,), leaf),)).values()))
                shape = shape_of(answer(program, trees.free_meaning(program, own), 0, 0))
                expected = is_tree(shape, 2, tree)
                right, many = right + expected, many + 1
                self.assertIs(trees.is_tree_paper(program, 2, (own, tree)), expected)
        self.assertTrue(0 < right < many / 2, (right, many))


class FailsTest(unittest.TestCase):

    def test_loops_with_few_cells(self):
        for seed, program in enumerate(BARRED):
            for depth in (1, 2, 3):
                turns = trees.tree_paper(program, depth)[0]
                meaning = trees.free_meaning(program, turns)
                if answer_parts(program, meaning, 0, 0) > 2000:
                    continue
                for number in range(6):
                    own = loops_by_chance(chance(10 * seed + number))
                    if own[0] <= depth:
                        try:
                            self.assertIs(trees.fails(program, own, turns), True)
                        except Unfit:
                            self.assertLess(min(len(meaning[1]), len(meaning[2])), 2)

    def test_by_chance(self):
        counted = {True: 0, False: 0}
        simple = ((STILL,), (ENDING,), (("leaf", ("at", (0,))),), (("leaf", ("at", (0, 0))),))
        for seed in range(800):
            dice = chance(seed)
            program, own = dice.choice(simple + (BOTH_WAYS,)), loops_by_chance(dice)
            if seed % 4 == 0:
                own = (1, 0, ((dice.choice(((), (("make", 0, 0, (0,)),))), ("stop", 0)),))
            turns = turns_by_chance(dice, program, 2)
            meaning = trees.free_meaning(program, turns)
            try:
                expected = end_of(own, meaning, 0) != ("stop", answer(program, meaning, 0, 0))
            except Unfit:
                with self.assertRaises(Unfit):
                    trees.fails(program, own, turns)
                continue
            counted[expected] += 1
            self.assertIs(trees.fails(program, own, turns), expected)
        self.assertTrue(min(counted.values()) > 20, counted)

    def test_errors(self):
        stop, stepping = (1, 0, (((), ("stop", 0)),)), (1, 0, (((("step", 0, 2),), ("stop", 0)),))
        slow = (1, 0, tuple(((), ("go", number + 1)) for number in range(20000)) + (((), ("stop", 0)),))
        great = (("ask", 0, STILL, ("leaf", ("make", 1, (("call", 0, (0,)),) * 6))),)
        turns = tuple((0, (0,) * many, 1) for many in range(6))
        for program, own, error in (
                (great, stepping, Unfit), (BOTH_WAYS, slow, TooMuch), (great, slow, TooMuch), (great, stop, TooMuch)):
            with self.assertRaises(error):
                told(trees.fails, program, own, turns if program is great else ())
        self.assertIs(trees.fails(great, stop, ()), False)
        self.assertIs(trees.fails(great, stop, turns[:1]), True)


if __name__ == "__main__":
    unittest.main()
