"""What the parts of the package say of one PROGRAM fits together, as the overview and the guarantees tell."""

import unittest

from tests import plain
from tests.nests_by_chance import meanings_by_chance, nest_program, path_rules, row_rules, wide_rules
from tests.support import chance, rules_by_chance
from tests.test_loops import loops_by_chance
from unwound.alike import are_alike, as_met, is_marked, put_in
from unwound.desk import desk
from unwound.errors import CanNot, TooMuch, Unfit
from unwound.growth import are_two_rings, is_ring_row, ring_row, two_rings
from unwound.judge import comes_of, is_claim, is_so, paper, verdicts
from unwound.loops import is_loops
from unwound.meanings import parted_things
from unwound.nests import loops_of, nest_depth, nest_of, slips
from unwound.paths import along_path, path_loops
from unwound.pebbles import web_cells
from unwound.programs import is_program, kind_of
from unwound.rowloops import along_row, row_cells, row_flags, row_loops, row_span
from unwound.rows import barred, can_loop, fork_of, is_fork, is_rows, rows_of, stride
from unwound.tails import bare_loops, bare_names, most_waits
from unwound.texts import loops_read, loops_text, meaning_read, meaning_text, program_read, program_text, value_text
from unwound.trees import answer_shape, fails, free_meaning, is_tree_paper, tree_paper
from unwound.walks import is_spine, sides, walk_bar


def wide_homes(program):
    """The wide COMPONENTS that 0 comes to."""
    return sorted({plain.component(program, name) for name in plain.reached(program) if plain.kind(program, name) == "wide"})


def with_one_leaf_more(program):
    """program with one more leaf of own calls in its first wide COMPONENT that 0 comes to: this is not plain then."""
    for name in [home[0] for home in wide_homes(program)][:1]:
        call = [calls for calls in plain.own_calls(program, name) if calls][0][0]
        return program[:name] + (("ask", 99, program[name], ("leaf", ("call",) + call)),) + program[name + 1:]
    return program


KINDS = (
    (path_rules,), (row_rules,), (wide_rules,), (wide_rules, row_rules), (path_rules, row_rules), (path_rules, wide_rules),
    (path_rules, row_rules, wide_rules))


def programs(many):
    """PROGRAMS of all kinds."""
    found, seed = [], 0
    while len(found) < many:
        seed += 1
        dice = chance(seed)
        kinds = KINDS[seed % len(KINDS)]
        rules = rules_by_chance(dice) if seed % 10 == 0 else nest_program(dice, 1, kinds)
        if is_program(rules):
            found.append(with_one_leaf_more(rules) if seed % 9 == 0 else rules)
    return found


def raised(function, *args):
    """The class of the error that function raises for args; None if it raises none."""
    try:
        function(*args)
    except (CanNot, TooMuch, Unfit) as error:
        return error.__class__
    return None


PROGRAMS = programs(450)


def are_plain(program):
    """True if the wide COMPONENTS that 0 comes to are plain."""
    return all(plain.plain_wide(program, home[0]) for home in wide_homes(program))


def lone_leaves(program):
    """True if each NAME that 0 comes to has at most one leaf with own calls."""
    return all(sum(1 for own in plain.own_calls(program, name) if own) <= 1 for name in plain.reached(program))


PLAIN = [program for program in PROGRAMS if are_plain(program)]
LOOPED = [program for program in PLAIN if can_loop(program)]
BARRED = [program for program in PLAIN if not can_loop(program)]


class BorderTest(unittest.TestCase):

    def test_there_are_enough_of_each(self):
        self.assertTrue(len(PROGRAMS) - len(PLAIN) > 10 and len(LOOPED) > 150 and len(BARRED) > 50)

    def test_not_plain(self):
        for program in PROGRAMS:
            if not are_plain(program):
                for function in (can_loop, loops_of):
                    self.assertIs(raised(function, program), Unfit)
                self.assertIs(raised(tree_paper, program, 1), Unfit)
                self.assertIs(is_claim(("loops", program)), False)

    def test_rows_or_forks(self):
        for program in PROGRAMS:
            for home in wide_homes(program):
                forked = home in barred(program)
                self.assertIs(raised(rows_of, program, home[0]), CanNot if forked else None)
                self.assertIs(raised(fork_of, program, home[0]), None if forked else CanNot)
                if forked:
                    self.assertIs(is_fork(program, fork_of(program, home[0])), True)
                else:
                    rows = rows_of(program, home[0])
                    self.assertIs(is_rows(program, rows), True)
                    self.assertEqual(stride(program, home[0]) % len(rows[1]), 0)

    def test_loops_exactly_if_all_have_rows(self):
        for program in PLAIN:
            can = not barred(program)
            self.assertIs(can_loop(program), can)
            self.assertIs(is_so(("loops", program)), can)
            self.assertIs(raised(tree_paper, program, 0), CanNot if can else None)
            found = raised(loops_of, program)
            self.assertTrue(found in (None, TooMuch) if can else found is CanNot)
            self.assertEqual(verdicts((("loops", program),), (paper(("loops", program)),)), ["for" if can else "against"])

    def test_growth_tells_the_same_border(self):
        told = 0
        for program in PLAIN:
            found = raised(two_rings, program)
            if not lone_leaves(program) or found is TooMuch:
                continue
            told += 1
            self.assertIs(found, CanNot if can_loop(program) else None, program)
            if found is None:
                self.assertIs(are_two_rings(program, two_rings(program)), True)
                self.assertIs(raised(ring_row, program), CanNot)
            else:
                self.assertIs(is_ring_row(program, ring_row(program)), True)
        self.assertGreater(told, 90)


class LoopsTest(unittest.TestCase):

    def check(self, program, own, seed):
        """LOOPS do program, as far as two MEANINGS show."""
        self.assertIs(is_loops(own), True)
        for meaning in meanings_by_chance(chance(seed)):
            try:
                found = slips(program, own, meaning)
            except TooMuch:
                continue
            self.assertEqual(found, (), (program, meaning))

    def test_all_ways_to_make_them(self):
        kinds = {"path": 0, "row": 0, "bare": 0, "nest": 0}
        for seed, program in enumerate(LOOPED):
            if raised(loops_of, program) is None:
                kinds["nest"] += nest_depth(program) > 1
                self.check(program, loops_of(program), seed)
            if along_path(program):
                kinds["path"] += 1
                self.assertEqual(kind_of(program, 0), "path")
                self.check(program, path_loops(program), seed)
            if along_row(program):
                self.assertEqual(nest_of(program), (plain.component(program, 0),))
                if row_span(program) <= 12:
                    kinds["row"] += 1
                    own = row_loops(program)
                    self.assertTrue(own[0] <= row_cells(program) and own[1] <= row_flags(program))
                    self.check(program, own, seed)
            if raised(bare_loops, program) is None:
                kinds["bare"] += 1
                self.assertEqual(most_waits(program), 0)
                self.check(program, bare_loops(program), seed)
        self.assertTrue(min(kinds.values()) > 7, kinds)

    def test_of_those_that_have_none(self):
        for program in BARRED:
            self.assertIs(along_row(program), False)
            self.assertIs(along_path(program), False)
            self.assertIs(raised(bare_loops, program), Unfit)
            self.assertIsNone(most_waits(program))
            self.assertFalse(set(plain.reached(program)) <= set(bare_names(program)))

    def test_texts_and_a_desk(self):
        for seed, program in enumerate(LOOPED[:120]):
            self.assertEqual(program_read(program_text(program)), program)
            meaning = meanings_by_chance(chance(seed))[0]
            self.assertEqual(meaning_read(meaning_text(meaning)), meaning)
            if raised(loops_of, program) is not None:
                continue
            own = loops_of(program)
            self.assertEqual(loops_read(loops_text(own)), own)
            lines = [["program"] + program_text(program).split("\n"), ["meaning"] + meaning_text(meaning).split("\n"), ["make"]]
            asked = [line for x in range(meaning[0]) for line in ("ends 0 %d" % x, "answer 0 %d" % x, "run %d" % x)]
            replies = desk("\n".join(["\n ".join(own) for own in lines] + asked))
            self.assertEqual(replies[:3], ["done"] * 3)
            for x in range(meaning[0]):
                ends, answered, ran = replies[3 * x + 3:3 * x + 6]
                self.assertEqual(ends, "yes" if plain.ends(program, meaning, (0, x)) else "no")
                if ends == "yes":
                    self.assertEqual(answered, ran)
                    if not answered.startswith("refused") and len(answered) < 3000:
                        self.assertEqual(answered, value_text(plain.value(program, meaning, (0, x))))


class TreesTest(unittest.TestCase):

    def test_few_cells_are_not_enough(self):
        failed = 0
        for seed, program in enumerate(BARRED):
            for depth in (1, 2):
                turns, tree = tree_paper(program, depth)
                self.assertIs(is_tree_paper(program, depth, (turns, tree)), True)
                shape = answer_shape(program, free_meaning(program, turns), 0)
                if len(shape) <= 12:
                    self.assertGreater(web_cells(shape), depth)
                for number in range(4):
                    own = loops_by_chance(chance(40 * seed + number))
                    if own[0] <= depth:
                        try:
                            self.assertIs(fails(program, own, turns), True)
                            failed += 1
                        except (TooMuch, Unfit):
                            pass
        self.assertGreater(failed, 40)


class AlikeTest(unittest.TestCase):

    def test_what_is_numbered_anew_or_put_in(self):
        for seed, program in enumerate(PLAIN[:150]):
            met = as_met(program)
            self.assertIs(can_loop(met), can_loop(program))
            self.assertEqual(nest_depth(met), nest_depth(program))
            for meaning in meanings_by_chance(chance(seed)):
                self.assertEqual(parted_things(program, met, meaning), ())
                if raised(put_in, program) is None:
                    self.assertEqual(parted_things(program, put_in(program), meaning), ())
            if is_marked(program):
                self.assertIs(are_alike(program, met), True)
                self.assertIs(comes_of(("alike", met, program), (("alike", program, met),)), True)

    def test_spines_are_paths_or_wide(self):
        found = 0
        for seed in range(900):
            program = rules_by_chance(chance(seed), 1)
            if is_program(program) and is_spine(program):
                found += 1
                self.assertEqual(kind_of(program, 0), "path")
                self.assertIs(along_path(program), True)
                self.assertNotEqual(raised(sides, program), raised(walk_bar, program))
                self.assertEqual(verdicts((("walk", program),), (paper(("walk", program)),)), ["for" if raised(sides, program) is None else "against"])
        self.assertGreater(found, 20)


if __name__ == "__main__":
    unittest.main()
