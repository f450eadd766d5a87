"""unwound.loops [11]."""

import unittest

from tests.support import chance, meaning_by_chance, odd_things, told, variants
from unwound import loops
from unwound.errors import CanNot, NoPlace, TooMuch, Unfit

LINE = (3, ((1, 2, 2),), ((False, False, True),))
ROUND = (3, ((1, 0, 2),), ((False, False, True),))
LAST = (1, 0, (((), ("ask", 0, 0, 1, 2)), ((), ("stop", 0)), ((("step", 0, 0),), ("go", 0))))
STALE = (2, 1, (((("copy", 1, 0), ("step", 1, 0), ("make", 0, 3, (0, 1))), ("seen", 0, 1, 0)), ((), ("stop", 1))))
STOP = (1, 0, (((), ("stop", 0)),))
WHOLE = (3, 2, (
    ((("copy", 1, 0), ("step", 1, 4), ("make", 2, 5, (0, 1)), ("flag", 1, True)), ("ask", 3, 0, 1, 2)),
    ((("flag", 0, False),), ("seen", 1, 2, 1)), ((), ("go", 3)), ((), ("stop", 2))))
ASKING = (loops.end_of, loops.run, loops.work)


def deed_by_chance(dice, cells, flags):
    """A deed of LOOPS with so many CELLS and FLAGS."""
    kind = dice.choice(("copy", "copy", "step", "step", "make") + ("flag",) * 2 * (flags > 0))
    cell = dice.randrange(cells)
    if kind == "flag":
        return kind, dice.randrange(flags), dice.random() < 0.5
    if kind == "make":
        return kind, cell, dice.randrange(3), tuple(dice.randrange(cells) for _ in range(dice.randint(1, 3)))
    return kind, cell, dice.randrange(2 if kind == "step" else cells)


def loops_by_chance(dice, most_blocks=6):
    """LOOPS of one to four CELLS; most begin by filling these."""
    cells, flags, blocks = dice.randint(1, 4), dice.randint(0, 2), dice.randint(1, most_blocks)
    made = []
    for number in range(blocks):
        deeds = [deed_by_chance(dice, cells, flags) for _ in range(dice.randint(0, 2))]
        if number == 0 and dice.random() < 0.8:
            deeds = [("copy", cell, 0) for cell in range(1, cells)] + deeds
        kind = dice.choice(("go", "go", "ask", "ask", "stop") + ("seen",) * (flags > 0))
        onward = tuple(dice.randrange(blocks) for _ in range(1 if kind == "go" else 2))
        end = {"go": ("go",), "ask": ("ask", dice.randrange(2), dice.randrange(cells)),
               "stop": ("stop", dice.randrange(cells)), "seen": ("seen", dice.randrange(max(flags, 1)))}[kind]
        made.append((tuple(deeds), end if kind == "stop" else end + onward))
    return cells, flags, tuple(made)


def plain_block(own, meaning, stand):
    """What comes of the next block: ("on", STAND), ("fault", block, place) or ("stop", VALUE)."""
    block, cells, ups = stand[0], list(stand[1]), list(stand[2])
    deeds, end = own[2][block]
    for place, deed in enumerate(deeds):
        if deed[0] == "flag":
            ups[deed[1]] = deed[2]
        elif deed[0] == "copy":
            if cells[deed[2]] is None:
                return "fault", block, place
            cells[deed[1]] = cells[deed[2]]
        elif deed[0] == "make":
            if any(cells[cell] is None for cell in deed[3]):
                return "fault", block, place
            cells[deed[1]] = ("make", deed[2], tuple(cells[cell] for cell in deed[3]))
        else:
            if cells[deed[1]] is None or cells[deed[1]][0] != "thing":
                return "fault", block, place
            cells[deed[1]] = ("thing", meaning[1][deed[2]][cells[deed[1]][1]])
    if end[0] == "stop":
        return ("fault", block, len(deeds)) if cells[end[1]] is None else ("stop", cells[end[1]])
    if end[0] == "ask":
        if cells[end[2]] is None or cells[end[2]][0] != "thing":
            return "fault", block, len(deeds)
        after = end[3] if meaning[2][end[1]][cells[end[2]][1]] else end[4]
    else:
        after = end[1] if end[0] == "go" else end[2] if ups[end[1]] else end[3]
    return "on", (after, tuple(cells), tuple(ups))


def plain_run(own, meaning, start, most):
    """The list of the STANDS of the run, and its end as end_of tells it, of a run of less than so many blocks."""
    stand = (0, (("thing", start),) + (None,) * (own[0] - 1), (False,) * own[1])
    stands, sights = [], []
    for _ in range(most):
        sight = (stand[0], tuple("made" if cell is not None and cell[0] == "make" else cell for cell in stand[1]), stand[2])
        if sight in sights:
            first = sights.index(sight)
            return stands, ("never", first, len(sights) - first)
        sights.append(sight)
        stands.append(stand)
        found = plain_block(own, meaning, stand)
        if found[0] != "on":
            return stands, found
        stand = found[1]
    return stands, None


def runs_by_chance(seed, many):
    """LOOPS, MEANINGS, things, with the STANDS and the end; runs of a few blocks alone, VALUES not too great."""
    dice, found = chance(seed), []
    while len(found) < many:
        own, meaning = loops_by_chance(dice), meaning_by_chance(dice, dice.randint(1, 4), 2, 2)
        start = dice.randrange(meaning[0])
        stands, end = plain_run(own, meaning, start, 12)
        if end is not None and (len(stands) > 1 or dice.random() < 0.1):
            found.append((own, meaning, start, stands, end))
    return found


RUNS = runs_by_chance(7, 500)


def counting(many):
    """LOOPS that do so many blocks and stop."""
    return 1, 0, tuple(((), ("go", number + 1)) for number in range(many - 1)) + (((), ("stop", 0)),)


def binary(flags):
    """The blocks of LOOPS that count by so many FLAGS, and come to the block behind them at last."""
    rows = []
    for flag in range(flags):
        down = tuple(("flag", lower, False) for lower in range(flag))
        rows.append(((), ("seen", flag, 2 * flag + 2, 2 * flag + 1)))
        rows.append((down + (("flag", flag, True),), ("go", 0)))
    return tuple(rows)


class ShapeOfLoopsTest(unittest.TestCase):

    def test_loops(self):
        for own in (LAST, STALE, STOP, WHOLE):
            self.assertIs(told(loops.is_loops, own), True)
        for seed in range(100):
            self.assertIs(loops.is_loops(loops_by_chance(chance(seed))), True)
        self.assertIs(loops.is_loops(counting(5000)), True)
        self.assertIs(loops.is_loops((10 ** 30, 10 ** 30, (((("step", 10 ** 29, 10 ** 20),), ("stop", 10 ** 30 - 1)),))), True)

    def test_what_is_nearly_loops(self):
        for own in (LAST, WHOLE):
            for thing in variants(own):
                self.assertIs(loops.is_loops(thing), False, thing)
        for thing in odd_things():
            self.assertIs(loops.is_loops(thing), False)
        for deed in (
                ("copy", 0, 3), ("copy", 3, 0), ("step", 3, 0), ("make", 3, 0, (0,)), ("make", 0, 0, (3,)), ("make", 0, 0, ()),
                ("make", 0, 0), ("make", 0, 0, 0), ("copy", 0, 0, 0), ("step", 0, 0, 0), ("flag", 2, True), ("flag", 0, 1),
                ("flag", 0, True, True), ("go", 0), ("stop", 0), ("put", 0, 0), ("copy", 0), (), 0, ("flag", 0)):
            self.assertIs(loops.is_loops((3, 2, (((deed,), ("stop", 0)),))), False, deed)
        for end in (
                ("go", 1), ("go",), ("go", 0, 0), ("stop", 3), ("stop", 0, 0), ("ask", 0, 3, 0, 0), ("ask", 0, 0, 1, 0),
                ("ask", 0, 0, 0, 1), ("ask", 0, 0, 0), ("seen", 2, 0, 0), ("seen", 0, 1, 0), ("seen", 0, 0, 1),
                ("seen", 0, 0, 0, 0), ("seen", 0, 0), ("copy", 0, 0), ("flag", 0, True), (), 0, ("seen", 0, 0, 0, 1)):
            self.assertIs(loops.is_loops((3, 2, (((), end),))), False, end)
        for thing in ((0, 0, STOP[2]), (0, 0, (((), ("go", 0)),)), (1, 0, ()), (1, 0), (1, 0, STOP[2], ()), (1, 0, (((),),)), (1, 0, (((), ("stop", 0), 0),))):
            self.assertIs(loops.is_loops(thing), False, thing)


class RunsTest(unittest.TestCase):

    def test_by_chance(self):
        ends = {"stop": 0, "fault": 0, "never": 0}
        for own, meaning, start, stands, end in RUNS:
            ends[end[0]] += 1
            self.assertEqual(loops.stands_of(own, meaning, start, len(stands)), stands)
            self.assertEqual(loops.stands_of(own, meaning, start, 1), stands[:1])
            if end[0] != "never":
                self.assertEqual(loops.stands_of(own, meaning, start, 2000), stands)
            self.assertEqual(loops.end_of(own, meaning, start), end)
            if end[0] == "stop":
                self.assertEqual(loops.run(own, meaning, start), end[1])
                lines = [line for stand in stands for line in own[2][stand[0]][0] + own[2][stand[0]][1:]]
                many = [sum(1 for line in lines if line[0] == word) for word in ("step", "make", "ask")]
                self.assertEqual(loops.work(own, meaning, start), (len(stands), *many))
            else:
                for function in (loops.run, loops.work):
                    with self.assertRaises(CanNot):
                        function(own, meaning, start)
        self.assertTrue(min(ends.values()) > 60, ends)

    def test_in_all_ways(self):
        for own, meaning, start, stands, end in RUNS[:60]:
            told(loops.stands_of, own, meaning, start, 5)
            told(loops.end_of, own, meaning, start)
            told(loops.tidied, own)
            told(loops.may_fault, own)
            if end[0] == "stop":
                told(loops.run, own, meaning, start)
                told(loops.work, own, meaning, start)

    def test_many_stands(self):
        self.assertEqual(told(loops.stands_of, LAST, LINE, 0, 0), [])
        self.assertEqual(len(loops.stands_of(LAST, LINE, 0, 1)), 1)
        self.assertEqual(len(loops.stands_of(LAST, LINE, 0, 2000)), 6)
        self.assertEqual(len(loops.stands_of(LAST, ROUND, 0, 2000)), 2000)
        self.assertEqual(len(loops.stands_of(STALE, LINE, 0, 2000)), 2)

    def test_each_kind_of_fault(self):
        made = ("make", 0, 0, (0,))
        for deeds, end, place in (
                ((("copy", 0, 1),), ("stop", 0), 0), ((("make", 0, 0, (0, 1)),), ("stop", 0), 0),
                ((), ("stop", 1), 0), ((("step", 1, 0),), ("stop", 0), 0), ((made, ("step", 0, 0)), ("stop", 0), 1),
                ((), ("ask", 0, 1, 0, 0), 0), ((made,), ("ask", 0, 0, 0, 0), 1),
                ((("copy", 1, 0), ("copy", 0, 2)), ("stop", 0), 1)):
            own = (3, 0, ((deeds, end),))
            self.assertEqual(told(loops.end_of, own, LINE, 0), ("fault", 0, place))
            self.assertEqual(told(loops.may_fault, own), ((0, place),))
        fine = (3, 1, (((made, ("copy", 1, 0), ("make", 2, 0, (1, 0)), ("flag", 0, True)), ("seen", 0, 1, 0)), ((), ("stop", 2))))
        self.assertEqual(loops.end_of(fine, LINE, 0)[0], "stop")
        self.assertEqual(loops.may_fault(fine), ())

    def check_too_much(self, own):
        for function in ASKING:
            with self.assertRaises(TooMuch):
                function(own, LINE, 0)

    def test_just_20000_blocks(self):
        self.assertEqual(loops.run(counting(20000), LINE, 0), ("thing", 0))
        self.assertEqual(loops.work(counting(20000), LINE, 0), (20000, 0, 0, 0))
        self.check_too_much(counting(20001))

    def test_a_fault_in_block_20000(self):
        own = (2, 0, counting(20000)[2][:-1] + (((), ("stop", 1)),))
        self.assertEqual(loops.end_of(own, LINE, 0), ("fault", 19999, 0))
        with self.assertRaises(CanNot):
            loops.run(own, LINE, 0)
        self.check_too_much((2, 0, counting(20001)[2][:-1] + (((), ("stop", 1)),)))

    def test_a_sight_again_at_20000_blocks(self):
        own, longer = [
            (1, 0, tuple(((), ("go", (number + 1) % many)) for number in range(many))) for many in (20000, 20001)]
        self.assertEqual(loops.end_of(own, LINE, 0), ("never", 0, 20000))
        with self.assertRaises(CanNot):
            loops.run(own, LINE, 0)
        self.check_too_much(longer)

    def test_counting_by_flags(self):
        rows = binary(10)
        own = (1, 10, rows + (((), ("stop", 0)),))
        self.assertEqual(loops.run(own, LINE, 1), ("thing", 1))
        own = (1, 16, binary(16) + (((), ("stop", 0)),))
        for function in ASKING:
            with self.assertRaises(TooMuch):
                told(function, own, LINE, 1)

    def test_what_is_made_does_not_count_in_a_sight(self):
        own = (1, 0, (((("make", 0, 0, (0, 0)),), ("go", 0)),))
        self.assertEqual(loops.end_of(own, LINE, 0), ("never", 1, 1))
        both = (2, 0, (((("copy", 1, 0),), ("go", 1)), ((("step", 1, 0),), ("go", 1))))
        self.assertEqual(loops.end_of(both, LINE, 0), ("never", 3, 1))

    def test_errors_in_their_order(self):
        for function, more in ((loops.stands_of, (3,)), (loops.end_of, ()), (loops.run, ()), (loops.work, ())):
            for meaning in ((3, (), LINE[2]), (3, LINE[1], ())):
                for start in (0, 3):
                    with self.assertRaises(Unfit):
                        told(function, LAST, meaning, start, *more)
            for start in (3, 10 ** 20):
                with self.assertRaises(NoPlace) as caught:
                    told(function, LAST, LINE, start, *more)
                self.assertEqual(caught.exception.place, start)
            with self.assertRaises(Unfit):
                function((1, 0, (((), ("stop", 0)), ((("step", 0, 1),), ("go", 0)))), LINE, 0, *more)
            function(STOP, (1, (), ()), 0, *more)

    def test_too_great(self):
        doubling = tuple(("make", 0, 0, (0, 0)) for _ in range(9))
        for extra, parts in (((0,) * 2, None), ((1, 1), 1023 + 3)):
            own = (2, 0, (((("copy", 1, 0),) + doubling + (("make", 0, 0, (0,) + extra),), ("stop", 0)),))
            self.check_great(own, parts is None)
        for many in (976, 977):
            own = (2, 0, (((("copy", 1, 0),) + doubling + (("make", 0, 1, (0,) + (1,) * many),), ("stop", 0)),))
            self.check_great(own, many == 977)
        for many in (45, 46):
            own = (1, 0, ((tuple(("make", 0, 0, (0,)) for _ in range(many)), ("stop", 0)),))
            self.check_great(own, many == 46)

    def check_great(self, own, too_great):
        """VALUES of just 2,000 parts, of just 45 "make" within one another, are told; greater ones are not."""
        if too_great:
            for function in (loops.end_of, loops.run):
                with self.assertRaises(TooMuch):
                    told(function, own, LINE, 0)
        else:
            self.assertEqual(loops.end_of(own, LINE, 0), ("stop", loops.run(own, LINE, 0)))
        self.assertEqual(loops.work(own, LINE, 0)[0], 1)
        two = (own[0], 0, ((own[2][0][0], ("go", 1)), ((), ("stop", 0))))
        self.assertEqual(len(loops.stands_of(two, LINE, 0, 1)), 1)
        if too_great:
            with self.assertRaises(TooMuch):
                told(loops.stands_of, two, LINE, 0, 2)
        else:
            self.assertEqual(loops.stands_of(two, LINE, 0, 2)[1][1][0], loops.run(two, LINE, 0))

    def test_too_great_but_not_told(self):
        great = tuple(("make", 1, 0, (1, 1)) for _ in range(3000))
        own = (2, 0, (((("copy", 1, 0),) + great, ("stop", 0)),))
        self.assertEqual(loops.run(own, LINE, 1), ("thing", 1))
        deep = (2, 0, (((("copy", 1, 0),) + great, ("go", 1)), ((("copy", 1, 0),), ("stop", 1))))
        self.assertEqual(loops.run(deep, LINE, 1), ("thing", 1))
        with self.assertRaises(TooMuch):
            loops.stands_of(deep, LINE, 1, 2)
        fault = (3, 0, (((("copy", 1, 0),) + great, ("stop", 2)),))
        self.assertEqual(loops.end_of(fault, LINE, 0), ("fault", 0, 3001))
        with self.assertRaises(CanNot):
            loops.run(fault, LINE, 0)


class FaultsTest(unittest.TestCase):

    def plain_faults(self, own):
        """The pairs of may_fault, and how many sights are met."""
        first = (0, ("thing",) + (None,) * (own[0] - 1), (False,) * own[1])
        met, waiting, faults = {first}, [first], set()
        while waiting:
            block, kinds, ups = waiting.pop()
            cells = tuple(None if kind is None else ("make", 0, ()) if kind == "made" else ("thing", 0) for kind in kinds)
            for held in (True, False):
                meaning = (1, ((0,),) * 10, ((held,),) * 10)
                found = plain_block(own, meaning, (block, cells, ups))
                if found[0] == "fault":
                    faults.add(found[1:])
                elif found[0] == "on":
                    after, then, ups_then = found[1]
                    kinds_then = tuple(None if cell is None else {"make": "made"}.get(cell[0], "thing") for cell in then)
                    sight = (after, kinds_then, ups_then)
                    if sight not in met:
                        met.add(sight)
                        waiting.append(sight)
        return tuple(sorted(faults)), len(met)

    def test_by_chance(self):
        for own, meaning, start, stands, end in RUNS:
            faults = loops.may_fault(own)
            self.assertEqual(faults, self.plain_faults(own)[0])
            if end[0] == "fault":
                self.assertIn(end[1:], faults)

    def test_just_so_many_sights(self):
        self.assertEqual(self.plain_faults(counting(4000))[1], 4000)
        self.assertEqual(told(loops.may_fault, counting(4000)), ())
        with self.assertRaises(TooMuch):
            told(loops.may_fault, counting(4001))
        with self.assertRaises(TooMuch):
            loops.may_fault((1, 16, binary(16) + (((), ("stop", 0)),)))

    def test_both_ways_of_a_test_but_one_of_a_flag(self):
        asks = (2, 0, (((), ("ask", 0, 0, 1, 2)), ((), ("stop", 1)), ((), ("stop", 0))))
        self.assertEqual(loops.may_fault(asks), ((1, 0),))
        for up, faults in ((True, ((1, 0),)), (False, ())):
            sees = (2, 1, (((("flag", 0, up),), ("seen", 0, 1, 2)), ((), ("stop", 1)), ((), ("stop", 0))))
            self.assertEqual(loops.may_fault(sees), faults)
        # Behind a fault nothing comes.
        self.assertEqual(loops.may_fault((2, 0, (((("copy", 0, 1), ("copy", 0, 1)), ("stop", 1)),))), ((0, 0),))


class TidiedTest(unittest.TestCase):

    def plain_tidied(self, own):
        """What tidied tells."""
        kept = {0}
        for _ in own[2]:
            for block in list(kept):
                end = own[2][block][1]
                kept |= set({"go": end[1:], "stop": ()}.get(end[0], end[-2:]))
        blocks = sorted(kept)
        lines = [line for block in blocks for line in own[2][block][0] + own[2][block][1:]]
        cells, flags = {0}, {line[1] for line in lines if line[0] in ("flag", "seen")}
        for line in lines:
            cells |= set({
                "copy": line[1:], "step": line[1:2], "make": line[1:2] + (line[3] if line[0] == "make" else ()),
                "ask": line[2:3], "stop": line[1:]}.get(line[0], ()))
        cells, flags = sorted(cells), sorted(flags)

        def anew(line):
            if line[0] in ("flag", "seen"):
                rest = line[2:] if line[0] == "flag" else tuple(blocks.index(block) for block in line[2:])
                return (line[0], flags.index(line[1])) + rest
            if line[0] == "ask":
                return line[:2] + (cells.index(line[2]),) + tuple(blocks.index(block) for block in line[3:])
            if line[0] == "go":
                return "go", blocks.index(line[1])
            if line[0] == "make":
                return "make", cells.index(line[1]), line[2], tuple(cells.index(cell) for cell in line[3])
            rest = (cells.index(line[2]),) if line[0] == "copy" else line[2:]
            return (line[0], cells.index(line[1])) + rest
        return len(cells), len(flags), tuple(
            (tuple(anew(deed) for deed in own[2][block][0]), anew(own[2][block][1])) for block in blocks)

    def test_by_chance(self):
        changed = 0
        for own, meaning, start, stands, end in RUNS:
            anew = loops.tidied(own)
            changed += anew != own
            self.assertEqual(anew, self.plain_tidied(own))
            self.assertIs(loops.is_loops(anew), True)
            self.assertEqual(loops.tidied(anew), anew)
            for x in range(meaning[0]):
                one, other = loops.end_of(own, meaning, x), loops.end_of(anew, meaning, x)
                self.assertEqual(one[0], other[0])
                if one[0] == "stop":
                    self.assertEqual(one, other)
        self.assertTrue(changed > 200)

    def test_cell_0_stays(self):
        self.assertEqual(told(loops.tidied, (3, 2, (((("flag", 1, True),), ("go", 0)),))), (1, 1, (((("flag", 0, True),), ("go", 0)),)))
        self.assertEqual(loops.tidied((9, 9, (((), ("stop", 4)), ((), ("stop", 7))))), (2, 0, (((), ("stop", 1)),)))

    def test_both_ways_of_ends_are_kept(self):
        own = (2, 3, (((), ("seen", 2, 2, 3)), ((), ("stop", 0)), ((), ("ask", 4, 1, 0, 3)), ((), ("stop", 1))))
        self.assertEqual(loops.tidied(own), (2, 1, (((), ("seen", 0, 1, 2)), ((), ("ask", 4, 1, 0, 2)), ((), ("stop", 1)))))


if __name__ == "__main__":
    unittest.main()
