"""unwound.sweeps [13]."""

import itertools
import unittest

from tests import plain
from tests.nests_by_chance import meanings_by_chance, row_rules
from tests.support import chance, odd_things, rules_by_chance, told, variants
from unwound import sweeps
from unwound.errors import CanNot, NoPlace, TooMuch, Unfit
from unwound.programs import is_program
from unwound.rows import rows_of

ENDING = ("leaf", ("make", 0, (("at", ()),)))
TWICE = (("ask", 0, ENDING, ("leaf", ("make", 1, (("call", 0, (0,)), ("call", 0, (0, 0)))))),)
IN_TURN = (
    ("ask", 0, ENDING, ("leaf", ("make", 1, (("call", 0, (0, 1)), ("call", 1, (0,)))))),
    ("ask", 1, ENDING, ("leaf", ("call", 0, (1,)))))
AT_ONCE = (
    ("ask", 0, ENDING, ("leaf", ("make", 1, (("call", 1, ()), ("call", 0, (0, 0)))))),
    ("ask", 1, ENDING, ("leaf", ("make", 1, (("call", 0, (0,)), ("call", 1, (0,)))))))
FORKED = (("ask", 0, ENDING, ("leaf", ("make", 1, (("call", 0, (0, 1)), ("call", 0, (1, 0)))))),)
SIX = (6, ((1, 2, 3, 4, 5, 5),), ((False, False, False, False, True, True),))
OF_NAMES = (sweeps.reach, sweeps.first_marks, sweeps.marks_that_come, sweeps.most_marked)
ALONG = (sweeps.sweep, sweeps.places_asked, sweeps.last_place)


def programs_by_chance(seed, many, most_names=3):
    """PROGRAMS whose NAME 0 is of a COMPONENT with ROWS, plain ones and others."""
    dice, found = chance(seed), [TWICE, IN_TURN, AT_ONCE]
    while len(found) < many:
        home = list(range(dice.randint(1, most_names)))
        program = tuple(row_rules(
            dice, home, [], dice.sample(range(12), 12), 0, dice.choice((1, 2, 3)), dice.random() < 0.5))
        if is_program(program) and plain.kind(program, 0) != "still" and has_rows(program):
            found.append(program)
    return found


def has_rows(program):
    """True if the COMPONENT of 0 has ROWS."""
    try:
        rows_of(program, 0)
    except CanNot:
        return False
    return True


PROGRAMS = programs_by_chance(3, 120)
SMALL = [program for program in PROGRAMS if len(plain.component(program, 0)) < 3][:50]


def asked_pairs(program, name, row):
    """The triples (NAME asked, place, place from which) that come of own calls, row telling what is taken."""
    names = plain.component(program, name)
    found, waiting = {(name, 0, -1)}, [(name, 0)]
    while waiting:
        one, place = waiting.pop()
        if place < len(row):
            for called, word in plain.own_calls(program, one)[row[place][names.index(one)]]:
                triple = (called, place + len(word), place)
                if triple not in found:
                    found.add(triple)
                    waiting.append(triple[:2])
    return found


def plain_reach(program, name):
    """The reach."""
    return max(len(word) for one in plain.component(program, name) for calls in plain.own_calls(program, one) for _, word in calls)


def plain_marks(program, name, row):
    """The MARKS behind row."""
    pairs, here = asked_pairs(program, name, row), len(row)
    return tuple(
        tuple(sorted({one for one, place, near in pairs if place == here + ahead and near < here}))
        for ahead in range(plain_reach(program, name)))


def plain_asked(program, name, row):
    """The NAMES asked at the last place of row."""
    return tuple(sorted({one for one, place, near in asked_pairs(program, name, row) if place == len(row) - 1}))


def all_taken(program, name):
    """All TAKEN."""
    return list(itertools.product(*[range(len(plain.leaves(program[one]))) for one in plain.component(program, name)]))


def row_by_chance(dice, program, name, most=6):
    """A HISTORY."""
    choices = all_taken(program, name)
    return tuple(dice.choice(choices) for _ in range(dice.randint(0, most)))


def plain_ways(program, name):
    """For each of the MARKS that come: the least HISTORY with the fewest TAKEN behind which they do."""
    ways, now = {plain_marks(program, name, ()): ()}, [()]
    while now:
        rows, now = [row + (taken,) for row in now for taken in all_taken(program, name)], []
        for row in sorted(rows):
            marks = plain_marks(program, name, row)
            if marks not in ways:
                ways[marks] = row
                now.append(row)
    return ways


def asking(*rules):
    """The PROGRAM whose NAMES have one leaf without calls, and one for each of the tuples of pairs (NAME, how far)."""
    made, tests = [], itertools.count()
    for own in rules:
        rule = None
        for calls in reversed(own):
            leaf = ("leaf", ("make", 1, tuple(("call", name, (0,) * far) for name, far in calls)))
            rule = leaf if rule is None else ("ask", next(tests), leaf, rule)
        made.append(("ask", next(tests), ENDING, rule))
    return tuple(made)


JUST_200 = asking(
    (((0, 1), (1, 4)), ((0, 1), (0, 4)), ((1, 1), (1, 3))), (((0, 4),), ((1, 2), (1, 3), (1, 4)), ((0, 1),)))
JUST_201 = asking(
    (((0, 1), (0, 4), (1, 2)), ((1, 1), (1, 3), (1, 4)), ((0, 2), (0, 4))),
    (((0, 4), (1, 3), (1, 4)), ((1, 1), (1, 3)), ((1, 4),)))


class MarksTest(unittest.TestCase):

    def test_reach_and_first_marks(self):
        for program in PROGRAMS:
            for name in plain.component(program, 0):
                self.assertEqual(sweeps.reach(program, name), plain_reach(program, name))
                self.assertEqual(sweeps.first_marks(program, name), plain_marks(program, name, ()))

    def test_marks_by_chance(self):
        for seed in range(600):
            dice = chance(seed)
            program = dice.choice(PROGRAMS)
            name = dice.choice(plain.component(program, 0))
            row = row_by_chance(dice, program, name)
            expected = [plain_marks(program, name, row[:many]) for many in range(len(row) + 1)]
            self.assertEqual(sweeps.marks_row(program, name, row), expected)
            self.assertIs(sweeps.is_way_to_marks(program, name, expected[-1], row), True)
            if row:
                self.assertEqual(sweeps.next_marks(program, name, expected[-2], row[-1]), expected[-1])
                self.assertEqual(sweeps.asked_with(program, name, expected[-2], row[-1]), plain_asked(program, name, row))
                self.assertIs(sweeps.is_way_to_marks(program, name, expected[-1], row[:-1]), expected[-1] == expected[-2])

    def test_like_marks_go_on_alike(self):
        same = 0
        for seed in range(300):
            dice = chance(seed)
            program = dice.choice(SMALL)
            one, other = row_by_chance(dice, program, 0), row_by_chance(dice, program, 0)
            if one != other and plain_marks(program, 0, one) == plain_marks(program, 0, other):
                same += 1
                more = row_by_chance(dice, program, 0)
                first = sweeps.marks_row(program, 0, one + more)[len(one):]
                self.assertEqual(first, sweeps.marks_row(program, 0, other + more)[len(other):])
        self.assertGreater(same, 60)

    def test_marks_that_come(self):
        for program in SMALL:
            for name in plain.component(program, 0):
                ways = plain_ways(program, name)
                self.assertEqual(sweeps.marks_that_come(program, name), sorted(ways))
                most = max(sum(len(names) for names in marks) for marks in ways)
                self.assertEqual(sweeps.most_marked(program, name), most)
                for marks in ways:
                    self.assertEqual(sweeps.way_to_marks(program, name, marks), ways[marks])
                with self.assertRaises(CanNot):
                    sweeps.way_to_marks(program, name, ((), (name,)) + ((),) * 9)

    def test_just_200_marks(self):
        self.assertTrue(is_program(JUST_200) and is_program(JUST_201))
        self.assertEqual(len(told(sweeps.marks_that_come, JUST_200, 0)), 200)
        self.assertEqual(sweeps.most_marked(JUST_200, 0), max(
            sum(len(names) for names in marks) for marks in sweeps.marks_that_come(JUST_200, 0)))
        self.assertEqual(sweeps.way_to_marks(JUST_200, 0, ((0,), (), (), ())), ())
        with self.assertRaises(CanNot):
            sweeps.way_to_marks(JUST_200, 0, ((0,),))

    def test_more_than_200_marks(self):
        for function, more in ((sweeps.marks_that_come, ()), (sweeps.most_marked, ()), (sweeps.way_to_marks, (((0,),),))):
            with self.assertRaises(TooMuch):
                told(function, JUST_201, 0, *more)
        for marks in (sweeps.first_marks(JUST_201, 0), ((5,), ())):
            with self.assertRaises(TooMuch):
                sweeps.way_to_marks(JUST_201, 0, marks)
        self.assertEqual(sweeps.marks_row(JUST_201, 0, ()), [((0,), (), (), ())])
        self.assertIs(sweeps.is_way_to_marks(JUST_201, 0, ((0,), (), (), ()), ()), True)

    def test_in_all_ways(self):
        for function in OF_NAMES:
            told(function, IN_TURN, 1)
        told(sweeps.asked_with, AT_ONCE, 0, ((0,), (1,)), (1, 0))
        told(sweeps.next_marks, AT_ONCE, 0, ((0,), (1,)), (1, 0))
        told(sweeps.marks_row, IN_TURN, 0, ((1, 0), (0, 1)))
        told(sweeps.way_to_marks, IN_TURN, 0, ((1,), (0,)))
        told(sweeps.is_way_to_marks, IN_TURN, 0, ((1,), (0,)), ((1, 0),))
        told(sweeps.history_along, TWICE, SIX, 0, 3, 2)
        for function in ALONG:
            told(function, TWICE, SIX, 0, 2)

    def test_what_is_nearly_a_way(self):
        marks, way = ((0,), ()), ((1, 0), (0, 1))
        self.assertIs(sweeps.is_way_to_marks(IN_TURN, 0, marks, way), True)
        for thing in itertools.chain(variants(way), odd_things()):
            if thing != ():
                self.assertIs(sweeps.is_way_to_marks(IN_TURN, 0, marks, thing), False, thing)
        for thing in (((1, 0), (0, 2)), ((2, 0), (0, 1)), ((1,), (0,)), ((1, 0, 0), (0, 1, 0)), ((1, 0),), way + ((1, 0),)):
            self.assertIs(sweeps.is_way_to_marks(IN_TURN, 0, marks, thing), False, thing)
        self.assertIs(sweeps.is_way_to_marks(IN_TURN, 0, ((0,), ()), ()), True)
        self.assertIs(sweeps.is_way_to_marks(IN_TURN, 0, ((0,), ()), ((0, 0),) * 3000), False)
        self.assertIs(sweeps.is_way_to_marks(IN_TURN, 0, ((), ()), ((0, 0),) * 3000), True)

    def test_errors_of_rows(self):
        more = {
            sweeps.asked_with: (((0,),), (0,)), sweeps.next_marks: (((0,),), (0,)), sweeps.marks_row: ((),),
            sweeps.way_to_marks: (((0,),),), sweeps.is_way_to_marks: (((0,),), ()), sweeps.reach: (),
            sweeps.first_marks: (), sweeps.marks_that_come: (), sweeps.most_marked: ()}
        for function, rest in more.items():
            for program, name, error in (((ENDING,), 1, NoPlace), ((ENDING,), 0, Unfit), (FORKED, 0, CanNot), (FORKED, 3, NoPlace)):
                with self.assertRaises(error) as caught:
                    told(function, program, name, *rest)
                if error is NoPlace:
                    self.assertEqual(caught.exception.place, name)


class AlongTest(unittest.TestCase):

    def plain_asks(self, program, meaning, name, start, most=60):
        """The pairs (place, (NAME, thing)) that come of own calls, of places below so many; how many places."""
        found, waiting = set(), [(0, (name, start))]
        while waiting:
            pair = waiting.pop()
            if pair not in found and pair[0] < most:
                found.add(pair)
                place, ask = pair
                leaf = plain.leaf_number(program[ask[0]], meaning, ask[1])
                for called, word in plain.own_calls(program, ask[0])[leaf]:
                    waiting.append((place + len(word), (called, plain.led(meaning, ask[1], word))))
        return found

    def test_by_chance(self):
        ended = never = 0
        for seed, program in enumerate(PROGRAMS):
            dice = chance(seed)
            for meaning in meanings_by_chance(dice, 12):
                for name in plain.component(program, 0):
                    for start in range(meaning[0]):
                        asks = self.plain_asks(program, meaning, name, start)
                        last = max(place for place, ask in asks)
                        if last > 50:
                            never += 1
                            for function in ALONG:
                                with self.assertRaises(CanNot):
                                    function(program, meaning, name, start)
                        else:
                            ended += 1
                            self.check_end(program, meaning, name, start, asks, last)
        self.assertTrue(ended > 600 and never > 200, (ended, never))

    def check_end(self, program, meaning, name, start, asks, last):
        """What is told of a sweep that comes to an end."""
        asked = [tuple(sorted({ask[0] for at, ask in asks if at == place})) for place in range(last + 1)]
        self.assertEqual(sweeps.places_asked(program, meaning, name, start), asked)
        self.assertEqual(sweeps.last_place(program, meaning, name, start), last)
        row = sweeps.history_along(program, meaning, name, start, last + 1)
        marks = sweeps.sweep(program, meaning, name, start)
        self.assertEqual(marks, [plain_marks(program, name, row[:many]) for many in range(last + 2)])
        self.assertFalse(any(marks[-1]))
        self.assertTrue(all(any(own) for own in marks[:-1]))

    def test_history_along(self):
        for seed, program in enumerate(PROGRAMS[:60]):
            dice = chance(seed)
            meaning = meanings_by_chance(dice, 12)[1]
            name, start, many = dice.choice(plain.component(program, 0)), dice.randrange(5), dice.choice((0, 1, 7, 40))
            names, word, places = rows_of(program, name)
            row, x = [], start
            for place in range(many):
                row.append(tuple(plain.leaf_number(program[one], meaning, x) for one in names))
                x = meaning[1][word[(places[names.index(name)] + place) % len(word)]][x]
            self.assertEqual(sweeps.history_along(program, meaning, name, start, many), tuple(row))

    def test_gaps_between_places(self):
        far = (("ask", 0, ENDING, ("leaf", ("call", 0, (0, 0, 0)))),)
        line = (8, ((1, 2, 3, 4, 5, 6, 7, 7),), ((False,) * 6 + (True, True),))
        self.assertEqual(sweeps.places_asked(far, line, 0, 0), [(0,), (), (), (0,), (), (), (0,)])
        self.assertEqual(rows_of(far, 0)[1], (0,))
        wide = (("ask", 0, ENDING, ("leaf", ("make", 0, (("call", 0, (0, 0, 0)), ("call", 0, (0, 0)))))),)
        self.assertEqual(sweeps.places_asked(wide, line, 0, 3), [(0,), ()] + [(0,)] * 4)
        self.assertEqual(sweeps.sweep(wide, line, 0, 3)[1], ((), (0,), (0,)))

    def test_errors_in_their_order(self):
        short = (6, SIX[1], ())
        for function, more in [(function, ()) for function in ALONG] + [(sweeps.history_along, (2,))]:
            for program, meaning, name, start, error, place in (
                    (TWICE, short, 4, 9, Unfit, None), (TWICE, SIX, 4, 9, NoPlace, 4), (TWICE, SIX, 0, 9, NoPlace, 9),
                    ((ENDING,), SIX, 0, 6, NoPlace, 6), ((ENDING,), SIX, 0, 0, Unfit, None),
                    (FORKED, (1, ((0,), (0,)), ((False,),)), 0, 0, CanNot, None)):
                with self.assertRaises(error) as caught:
                    told(function, program, meaning, name, start, *more)
                if error is NoPlace:
                    self.assertEqual(caught.exception.place, place)
        self.assertEqual(told(sweeps.history_along, TWICE, (1, ((0,),), ((False,),)), 0, 0, 3), ((1,),) * 3)

    def test_other_components(self):
        program = (("leaf", ("make", 1, (("call", 1, ()), ("call", 1, (1,))))),) + tuple(
            ("ask", 0, ENDING, ("leaf", ("make", 1, (("call", 1, (0,)), ("call", 1, (0, 0)))))) for _ in range(1))
        meaning = (6, SIX[1] * 2, SIX[2])
        self.assertEqual(sweeps.sweep(program, meaning, 1, 2)[:2], [((1,), ()), ((1,), (1,))])
        with self.assertRaises(Unfit):
            sweeps.reach(program, 0)
        for seed in range(60):
            own = rules_by_chance(chance(seed))
            if is_program(own):
                for name in range(len(own)):
                    try:
                        names = rows_of(own, name)[0]
                    except (Unfit, CanNot) as error:
                        with self.assertRaises(error.__class__):
                            sweeps.reach(own, name)
                    else:
                        self.assertEqual(sweeps.reach(own, name), plain_reach(own, name))
                        self.assertIn(name, names)


if __name__ == "__main__":
    unittest.main()
