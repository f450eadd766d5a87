"""unwound.texts [21]."""

import re
import unittest

from tests import plain
from tests.support import chance, lists, meaning_by_chance, rules_by_chance, term_by_chance, told
from tests.test_loops import loops_by_chance
from unwound import texts
from unwound.errors import BadLine, Endless, Ring, Unfit
from unwound.loops import is_loops
from unwound.meanings import is_meaning
from unwound.programs import is_program

X = ("at", ())
TWIG = ("make", 3, (("at", (0, 1)), ("call", 0, ()), ("make", 0, (("at", ()),))))
DOWN = (("ask", 0, ("leaf", X), ("leaf", ("make", 0, (X, ("call", 0, (0,)))))),)
LOOPS = (2, 1, (((("step", 0, 4), ("make", 1, 0, (0, 0)), ("flag", 0, True)), ("stop", 1)),))
WHOLE = (3, 2, (
    ((("copy", 1, 0), ("step", 1, 4), ("make", 2, 5, (0, 1)), ("flag", 1, True)), ("ask", 3, 0, 1, 2)),
    ((("flag", 0, False),), ("seen", 1, 2, 1)), ((), ("go", 3)), ((), ("stop", 2))))
WHOLE_TEXT = (
    "loops 3 2\nblock\ncopy 1 0\nstep 1 4\nmake 2 5 0 1\nflag 1 up\nask 3 0 1 2\nblock\nflag 0 down\nseen 1 2 1\n"
    "block\ngo 3\nblock\nstop 2")
MEANING = (3, ((1, 2, 2), (0, 0, 0)), ((True, False, False),))
NUMBER = r"(0|[1-9][0-9]*)"


def written(one):
    """The writing of a TERM or VALUE."""
    if one[0] == "make":
        return "m%d(%s)" % (one[1], ",".join(written(part) for part in one[2]))
    if one[0] == "thing":
        return str(one[1])
    return ("x" if one[0] == "at" else "f%d" % one[1]) + "".join(".%d" % step for step in one[-1])


def choice_lines(choice):
    """The lines of a CHOICE."""
    if choice[0] == "leaf":
        return ["leaf " + written(choice[1])]
    return ["ask %d" % choice[1]] + choice_lines(choice[2]) + choice_lines(choice[3])


def program_lines(program):
    """The lines of a PROGRAM."""
    return [line for rule in program for line in ["rule"] + choice_lines(rule)]


def plain_term(word):
    """The TERM with this writing; None if there is none."""
    one, rest = begun_term(word)
    return one if rest == "" else None


def begun_term(word):
    """A TERM with whose writing word begins, and what stands behind it; (None, None) if it begins with none."""
    found = re.match(rf"m{NUMBER}\(", word)
    if found:
        terms, rest = [], "," + word[found.end():]
        while rest[:1] == ",":
            one, rest = begun_term(rest[1:])
            if one is None:
                return None, None
            terms.append(one)
        return (("make", int(found[1]), tuple(terms)), rest[1:]) if rest[:1] == ")" else (None, None)
    found = re.match(rf"(?:x|f{NUMBER})((?:\.{NUMBER})*)(?![0-9.])", word)
    if not found:
        return None, None
    steps = tuple(int(step) for step in found[2].split(".")[1:])
    return ("at", steps) if found[1] is None else ("call", int(found[1]), steps), word[found.end():]


def full(pattern, line):
    """The match of the whole line, numbers standing for N, or None."""
    return re.fullmatch(pattern.replace("N", NUMBER), line)


def plain_rules(text):
    """What has this text of a PROGRAM, whatever it is, or the number of the line that can not stand there."""
    rules, wanting = [], 0
    lines = text.split("\n") if text else []
    for place, line in enumerate(lines):
        if not wanting:
            if line != "rule":
                return place
            rules.append([])
            wanting = 1
        elif full("ask N", line):
            rules[-1].append(("ask", int(line[4:])))
            wanting += 1
        elif line[:5] == "leaf " and plain_term(line[5:]) is not None:
            rules[-1].append(("leaf", plain_term(line[5:])))
            wanting -= 1
        else:
            return place
    return len(lines) if wanting or not lines else tuple(first_choice(row) for row in rules)


def first_choice(row):
    """The CHOICE with which row begins; its lines are taken away."""
    line = row.pop(0)
    return line if line[0] == "leaf" else line + (first_choice(row), first_choice(row))


def plain_loops(text):
    """The same for LOOPS."""
    lines = text.split("\n") if text else [""]
    found = full("loops N N", lines[0])
    if not found or found[1] == "0":
        return 0
    blocks, deeds = [], None
    for place, line in enumerate(lines[1:], 1):
        words = [int(word) if word.isdigit() else word for word in line.split(" ")]
        if deeds is None:
            if line != "block":
                return place
            deeds = []
        elif full("(copy|step) N N", line):
            deeds.append(tuple(words))
        elif full("make N N( N)+", line):
            deeds.append(("make", words[1], words[2], tuple(words[3:])))
        elif full("flag N (up|down)", line):
            deeds.append(("flag", words[1], words[2] == "up"))
        elif full("(go|stop) N|ask N N N N|seen N N N", line):
            blocks.append((tuple(deeds), tuple(words)))
            deeds = None
        else:
            return place
    return len(lines) if deeds is not None or not blocks else (int(found[1]), int(found[2]), tuple(blocks))


def plain_meaning(text):
    """The same for a MEANING."""
    lines = text.split("\n") if text else [""]
    found = full("meaning N", lines[0])
    if not found or found[1] == "0":
        return 0
    many, steps, tests = int(found[1]), [], []
    for place, line in enumerate(lines[1:], 1):
        words = line.split(" ")[1:]
        if full("step( N)+", line) and not tests and len(words) == many and all(int(word) < many for word in words):
            steps.append(tuple(int(word) for word in words))
        elif full("test( yes| no)+", line) and len(words) == many:
            tests.append(tuple(word == "yes" for word in words))
        else:
            return place
    return many, tuple(steps), tuple(tests)


def plain_program(text):
    """What program_read gives of text, or raises: the class of the error and what it carries."""
    rules = plain_rules(text)
    if isinstance(rules, int):
        return BadLine, rules
    tests = [test for rule in rules for test in plain.tests(rule)]
    called = [call[0] for rule in rules for leaf in plain.leaves(rule) for call in plain.calls(leaf)]
    if len(set(tests)) < len(tests) or max(called, default=0) >= len(rules):
        return Unfit, None
    if plain.least_ring(rules) is not None:
        return Ring, plain.least_ring(rules)
    return (Endless, plain.endless(rules)) if plain.endless(rules) else (None, rules)


def plain_read(text, reader):
    """The same for loops_read and meaning_read."""
    if reader == texts.program_read:
        return plain_program(text)
    found = (plain_loops if reader == texts.loops_read else plain_meaning)(text)
    if isinstance(found, int):
        return BadLine, found
    if reader == texts.loops_read and not is_loops(found):
        return Unfit, None
    return None, found


def mutated(dice, text):
    """text with a sign, a number, a word or a line taken away, put in, or put in the place of another one."""
    kind = dice.randrange(7)
    if kind > 4:
        numbers = list(re.finditer("[0-9]+", text))
        found = dice.choice(numbers) if numbers else None
        return text[:found.start()] + str(dice.randrange(5)) + text[found.end():] if found else text
    if kind == 0:
        at = dice.randint(0, len(text))
        return text[:at] + dice.choice(" 0123456789.,()xfm\nmnopyes") + text[at + dice.randint(0, 1):]
    parts = re.split(r"(\n)", text) if kind < 3 else re.split(r"([ \n])", text)
    at = dice.randrange(len(parts))
    if kind in (1, 3):
        del parts[at]
    else:
        other = ("rule", "block", "", " ", "up", "yes", "0", "1", "12", "leaf x", "ask 3", "stop 0", "go 0", "test yes")
        parts[at] = dice.choice(parts + list(other))
    return "".join(parts)


class TermsTest(unittest.TestCase):

    def test_there_and_back(self):
        for seed in range(300):
            one = term_by_chance(chance(seed), 4, 3)
            self.assertEqual(told(texts.term_text, one), written(one))
            self.assertEqual(told(texts.term_read, written(one)), one)

    def test_values(self):
        def value_of(one):
            if one[0] == "make":
                return one[:2] + (tuple(value_of(part) for part in one[2]),)
            return "thing", 10 * len(one[-1]) + sum(one[-1])
        for seed in range(100):
            value = value_of(term_by_chance(chance(seed), 4, 3))
            self.assertEqual(told(texts.value_text, value), written(value))
        self.assertEqual(texts.value_text(("thing", 123456789)), "123456789")
        self.assertEqual(texts.value_text(["make", 2, [["thing", 7], ["thing", 0]]]), "m2(7,0)")

    def test_what_is_no_writing(self):
        for word in (
                "", " ", "x ", " x", "x x", "x.", ".0", "x.00", "x.01", "x.-1", "x.1.", "x..1", "x0", "x1.0", "X", "f", "f.0",
                "f00", "f01.0", "f0.", "f-1", "f0,x", "m0", "m0(", "m0()", "m0(x", "m0x)", "m0(x))", "m0(x,)", "m0(,x)",
                "m0(x,,x)", "m0(x)x", "m0(x)(x)", "m0(x),x", "m(x)", "m00(x)", "m0.1(x)", "m0((x))", "(x)", "()", ")", ",", "(",
                "x)", "x(", "x()", "m0 (x)", "m0( x)", "m0(x, x)", "m0(m1)", "m0(m1())", "0", "7", "m0(7)", "x\n", "\nx", "m0(x\n)",
                "x.1\n", "leaf x", "f0(x)", "mx(x)", "m0[x]", "x;0", "x+1", "x.+1", "x.1_0", "xx", "ff0", "m0(x)m0(x)",
                "m0(x(x)", "m0(x(x))", "m0(x(x,x)", "m0(m1(x)x)", "m0(m1(x)x,x)", "m0(m1(x)(x)", "m0(x,m1"):
            self.assertIsNone(told(texts.term_read, word), word)
            self.assertIsNone(plain_term(word), word)
        for word in ("x", "x.0", "x.10.0", "f0", "f10.3", "m0(x)", "m10(x,f0,m0(m0(x.1)))", "x.123456789012"):
            self.assertEqual(written(texts.term_read(word)), word)

    def test_writings_that_are_bent(self):
        none = 0
        for seed in range(3000):
            dice = chance(seed)
            word = mutated(dice, written(term_by_chance(dice, 4, 2)))
            none += plain_term(word) is None
            self.assertEqual(texts.term_read(word), plain_term(word), word)
        self.assertTrue(1000 < none < 2500, none)

    def test_a_hundred_levels(self):
        one, value = X, ("thing", 3)
        for maker in range(100):
            one, value = ("make", maker, (one,)), ("make", maker, (value,))
        word = "".join("m%d(" % maker for maker in range(99, -1, -1)) + "%s" + ")" * 100
        self.assertEqual(texts.term_text(one), word % "x")
        self.assertEqual(texts.value_text(value), word % "3")
        self.assertEqual(texts.term_text(texts.term_read(word % "x")), word % "x")
        self.assertIsNone(texts.term_read(word % "x" + ")"))
        self.assertIsNone(texts.term_read((word % "x")[:-1]))
        self.assertEqual(texts.program_text(texts.program_read("rule\nleaf " + word % "x")), "rule\nleaf " + word % "x")
        with self.assertRaises(BadLine) as caught:
            texts.program_read("rule\nleaf " + word % "")
        self.assertEqual(caught.exception.line, 1)


class TextsTest(unittest.TestCase):

    def test_programs_there_and_back(self):
        many = 0
        for seed in range(600):
            rules = rules_by_chance(chance(seed))
            text = "\n".join(program_lines(rules))
            kind, carried = plain_program(text)
            if kind is None:
                many += 1
                self.assertEqual(told(texts.program_text, rules), text)
                self.assertEqual(told(texts.program_read, text), rules)
                self.assertTrue(is_program(rules))
        self.assertGreater(many, 250)

    def test_loops_there_and_back(self):
        for seed in range(200):
            own = loops_by_chance(chance(seed))
            text = told(texts.loops_text, own)
            self.assertEqual(plain_loops(text), own)
            self.assertEqual(told(texts.loops_read, text), own)
        self.assertEqual(texts.loops_text(WHOLE), WHOLE_TEXT)
        self.assertEqual(texts.loops_read(WHOLE_TEXT), WHOLE)
        self.assertIs(texts.loops_read(WHOLE_TEXT)[2][1][0][0][2], False)

    def test_meanings_there_and_back(self):
        for seed in range(60):
            dice = chance(seed)
            meaning = meaning_by_chance(dice, dice.randint(1, 12), dice.randrange(4), dice.randrange(4))
            text = told(texts.meaning_text, meaning)
            self.assertEqual(plain_meaning(text), meaning)
            self.assertEqual(told(texts.meaning_read, text), meaning)
        self.assertEqual(texts.meaning_text(MEANING), "meaning 3\nstep 1 2 2\nstep 0 0 0\ntest yes no no")
        self.assertTrue(is_meaning(texts.meaning_read(texts.meaning_text(lists(MEANING)))))

    def check_read(self, reader, text):
        """What reader gives, or raises, is what a plain reader does; the class of the error."""
        kind, carried = plain_read(text, reader)
        if kind is None:
            self.assertEqual(told(reader, text), carried, text)
            return None
        with self.assertRaises(kind) as caught:
            told(reader, text)
        if kind is not Unfit:
            self.assertEqual(list(vars(caught.exception).values()), [carried], text)
        return kind

    def test_texts_that_are_bent(self):
        kinds = {}
        for seed in range(1800):
            dice = chance(seed)
            reader = (texts.program_read, texts.loops_read, texts.meaning_read)[seed % 3]
            if reader == texts.program_read:
                text = "\n".join(program_lines(rules_by_chance(dice, 3)))
            elif reader == texts.loops_read:
                text = texts.loops_text(loops_by_chance(dice, 3))
            else:
                text = texts.meaning_text(meaning_by_chance(dice, dice.randint(1, 3), dice.randrange(3), dice.randrange(3)))
            for _ in range(dice.choice((0, 1, 1, 2))):
                text = mutated(dice, text)
            kind = self.check_read(reader, text)
            kinds[(reader.__name__, kind)] = kinds.get((reader.__name__, kind), 0) + 1
        self.assertEqual(len(kinds), 5 + 3 + 2, kinds)
        self.assertTrue(min(kinds.values()) > 10, kinds)

    def check_line(self, reader, text, line):
        """reader raises BadLine(line) for text."""
        with self.assertRaises(BadLine) as caught:
            told(reader, text)
        self.assertEqual(caught.exception.line, line, text)

    def test_lines_of_programs(self):
        good = "rule\nask 0\nleaf x\nleaf m0(x,f0.0)"
        for text, line in (
                ("", 0), ("\n", 0), (" ", 0), ("rule", 1), ("rule\n", 1), ("rule ", 0), (" rule", 0), ("Rule\nleaf x", 0),
                ("leaf x", 0), ("rule\nrule\nleaf x", 1), ("rule\nleaf x\n", 2), ("rule\nleaf x\nleaf x", 2), (good + "\n", 4),
                (good + "\nrule", 5), (good + "\nrule\nask 1\nleaf x", 7), (good + "\nask 1\nleaf x\nleaf x", 4),
                (good + "\n\nrule\nleaf x", 4), ("\n" + good, 0), ("rule\n\nleaf x", 1), ("rule\nask 0\nask 1\nleaf x\nleaf x", 5),
                ("rule\nask\nleaf x\nleaf x", 1), ("rule\nask 00\nleaf x\nleaf x", 1), ("rule\nask 0 1\nleaf x\nleaf x", 1),
                ("rule\nask  0\nleaf x\nleaf x", 1), ("rule\nask 0 \nleaf x\nleaf x", 1), ("rule\nask x\nleaf x\nleaf x", 1),
                ("rule\nask -1\nleaf x\nleaf x", 1), ("rule\nleaf", 1), ("rule\nleaf ", 1), ("rule\nleaf  x", 1), ("rule\nleaf x ", 1),
                ("rule\nleaf x x", 1), ("rule\nleaf m0()", 1), ("rule\nleaf x.07", 1), ("rule\nleaf 0", 1), ("rule\nstop 0", 1),
                ("rule\nleaf f9.0\nrule\nleaf", 3), ("rule\nask 0\nleaf x\nask 0\nleaf x", 5), ("rule\r\nleaf x", 0)):
            self.check_line(texts.program_read, text, line)

    def test_programs_that_are_none(self):
        for text, kind, carried in (
                ("rule\nleaf f1.0", Unfit, None), ("rule\nask 0\nleaf x\nask 0\nleaf x\nleaf x", Unfit, None),
                ("rule\nask 0\nleaf x\nleaf x\nrule\nask 0\nleaf x\nleaf x", Unfit, None), ("rule\nleaf f1\nrule\nleaf f2", Unfit, None),
                ("rule\nleaf f0", Ring, (0,)), ("rule\nleaf f1\nrule\nask 0\nleaf x\nleaf f0", Ring, (0, 1)),
                ("rule\nleaf f0\nrule\nleaf f1.0", Ring, (0,)), ("rule\nleaf m0(f0.0)", Endless, (0,)),
                ("rule\nleaf x\nrule\nleaf f2.0\nrule\nleaf f1", Endless, (1, 2)),
                ("rule\nask 0\nleaf x\nask 0\nleaf f0\nleaf x", Unfit, None), ("rule\nleaf f9\nrule\nleaf f1", Unfit, None)):
            self.assertEqual(self.check_read(texts.program_read, text), kind)
            self.assertEqual(plain_program(text), (kind, carried))

    def test_lines_of_loops(self):
        good = "loops 1 0\nblock\nstop 0"
        for text, line in (
                ("", 0), ("loops 0 0", 0), ("loops 0 0\nblock\nstop 0", 0), ("loops 1", 0), ("loops 1 0 0", 0), ("loops", 0),
                ("loops 01 0", 0), ("loops 1  0", 0), ("loops 1 0 ", 0), ("loop 1 0", 0), ("loops 1 x", 0), ("loops 1 0", 1),
                ("loops 1 0\n", 1), ("loops 1 0\nstop 0", 1), ("loops 1 0\nblock", 2), ("loops 1 0\nblock\n", 2),
                ("loops 1 0\nblock 0\nstop 0", 1), ("loops 1 0\nblock\nstep 0 0", 3), ("loops 1 0\nblock\nblock\nstop 0", 2),
                (good + "\n", 3), (good + "\nstop 0", 3), (good + "\nblock", 4), (good + "\nblock\ncopy 0 0\nblock", 5),
                ("loops 1 0\nblock\nstop", 2), ("loops 1 0\nblock\nstop 0 0", 2), ("loops 1 0\nblock\nstop 00", 2),
                ("loops 1 0\nblock\ngo", 2), ("loops 1 0\nblock\ngo 0 0", 2), ("loops 1 0\nblock\nask 0 0 0", 2),
                ("loops 1 0\nblock\nask 0 0 0 0 0", 2), ("loops 1 0\nblock\nseen 0 0", 2), ("loops 1 0\nblock\nseen 0 0 0 0", 2),
                ("loops 1 0\nblock\ncopy 0\nstop 0", 2), ("loops 1 0\nblock\ncopy 0 0 0\nstop 0", 2),
                ("loops 1 0\nblock\nstep 0\nstop 0", 2), ("loops 1 0\nblock\nmake 0 0\nstop 0", 2),
                ("loops 1 0\nblock\nmake 0 0 x\nstop 0", 2), ("loops 1 1\nblock\nflag 0\nstop 0", 2),
                ("loops 1 1\nblock\nflag 0 1\nstop 0", 2), ("loops 1 1\nblock\nflag 0 Up\nstop 0", 2),
                ("loops 1 1\nblock\nflag 0 up up\nstop 0", 2), ("loops 1 1\nblock\nflag 0 \nstop 0", 2), ("loops 1 1\nblock\nup 0\nstop 0", 2),
                (" loops 1 0\nblock\nstop 0", 0), ("\nloops 1 0\nblock\nstop 0", 0), ("loops 1 0\nblock\nstop 7\nrule", 3)):
            self.check_line(texts.loops_read, text, line)

    def test_loops_whose_numbers_are_none(self):
        for lines in (
                "stop 1", "stop 2", "go 1", "ask 0 1 0 0", "ask 0 0 1 0", "ask 0 0 0 1", "seen 1 0 0", "seen 0 1 0", "seen 0 0 1",
                "copy 1 0\nstop 0", "copy 0 1\nstop 0", "step 1 0\nstop 0", "make 1 0 0\nstop 0", "make 0 0 1\nstop 0",
                "make 0 0 0 1\nstop 0", "flag 1 up\nstop 0", "flag 9 down\nstop 0", "go 123456789012"):
            self.assertIs(self.check_read(texts.loops_read, "loops 1 1\nblock\n" + lines), Unfit)
        with self.assertRaises(Unfit):
            texts.loops_read("loops 1 0\nblock\nflag 0 up\nstop 0")
        # STEPS, TESTS and MAKERS may be any numbers.
        for lines in ("ask 77 0 0 0", "step 0 99\nstop 0", "make 0 123456789 0\nstop 0"):
            self.assertIsNone(self.check_read(texts.loops_read, "loops 1 0\nblock\n" + lines))

    def test_lines_of_meanings(self):
        for text, line in (
                ("", 0), ("\n", 0), ("meaning", 0), ("meaning 0", 0), ("meaning 00", 0), ("meaning 1 1", 0), ("meaning  1", 0),
                ("meaning 1 ", 0), ("meanings 1", 0), ("meaning x", 0), ("meaning 1\n", 1), ("meaning 1\nstep", 1), ("meaning 1\nstep 1", 1),
                ("meaning 1\nstep 0 0", 1), ("meaning 2\nstep 0", 1), ("meaning 2\nstep 0 2", 1), ("meaning 2\nstep 0 01", 1),
                ("meaning 2\nstep 0  1", 1), ("meaning 2\nstep 0 1 ", 1), ("meaning 2\nstep yes no", 1), ("meaning 2\ntest 0 1", 1),
                ("meaning 2\ntest yes", 1), ("meaning 2\ntest yes no no", 1), ("meaning 1\ntest Yes", 1), ("meaning 1\ntest", 1),
                ("meaning 1\ntest yes\nstep 0", 2), ("meaning 1\nstep 0\ntest yes\ntest no\nstep 0\nstep 1", 4),
                ("meaning 1\nstep 0\n\ntest yes", 2), ("meaning 1\nstep 0\nmeaning 1", 2), ("meaning 1\ntest yes\n", 2),
                ("meaning 2\nstep 0 -1", 1), ("meaning 1\n step 0", 1)):
            self.check_line(texts.meaning_read, text, line)
        self.assertEqual(texts.meaning_read("meaning 999999999999"), (999999999999, (), ()))

    def test_many_lines(self):
        rules = [("ask", number, ("leaf", X), ("leaf", ("call", number, (0,)))) for number in range(500)]
        text = "\n".join(program_lines(rules))
        self.assertEqual(texts.program_read(text), tuple(rules))
        deep = ("leaf", X)
        for test in range(90):
            deep = ("ask", test, deep, ("leaf", X)) if test % 2 else ("ask", test, ("leaf", X), deep)
        self.assertEqual(texts.program_read(texts.program_text((deep,))), (deep,))
        wide = (1, 0, ((tuple(("step", 0, 0) for _ in range(1990)), ("stop", 0)),))
        self.assertEqual(texts.loops_read(texts.loops_text(wide)), wide)


if __name__ == "__main__":
    unittest.main()
