"""unwound.desk [23]."""

import re
import unittest

from tests.nests_by_chance import nest_program, path_rules, row_rules
from tests.support import chance, meaning_by_chance, odd_things, rules_by_chance, told
from tests.test_loops import LAST, counting, loops_by_chance
from tests.test_texts import mutated
from unwound import desk, errors
from unwound.loops import run
from unwound.meanings import answer, asks_at, ring_from
from unwound.nests import loops_of
from unwound.programs import is_program, kind_of
from unwound.rows import can_loop
from unwound.texts import (
    loops_read, loops_text, meaning_read, meaning_text, program_read, program_text, value_text)

NUMBER = "(?:0|[1-9][0-9]{0,8})"
REQUEST = re.compile(
    rf"(?:program|meaning|loops)(?:\n .*)+|make|rules|things|kinds|can|(?:asks|ends|answer) {NUMBER} {NUMBER}|run {NUMBER}")
KINDS = (LookupError, ValueError)
SHEET = "program\n rule\n ask 0\n leaf m0(x)\n leaf m1(f0.0,f0.0.0)\nmeaning\n meaning 3\n step 1 2 2\n test no no yes\n"
AT_FIRST = ((("leaf", ("at", ())),), (1, (), ()), (1, 0, (((), ("stop", 0)),)))
ASKING = ("rules", "things", "kinds", "can", "asks 0 0", "ends 0 0", "answer 0 0", "run 0")


def request(word, text):
    """The lines of a request with this text."""
    return "\n".join([word] + [" " + line for line in text.split("\n")])


def parted(text):
    """The pairs of the number of the line at which each request begins, or should begin, and of its lines."""
    found = []
    for number, line in enumerate(text.split("\n") if text else [], 1):
        if line.startswith(" ") and found:
            found[-1][1].append(line)
        else:
            found.append((number, [line]))
    return [(number, "\n".join(lines)) for number, lines in found]


def plain_reply(held, lines):
    """The reply to a request; held is a list of the PROGRAM, the MEANING and the LOOPS."""
    words, below = lines.partition("\n")[0].split(" "), lines.partition("\n")[2]
    text = "\n".join(line[1:] for line in below.split("\n"))
    numbers = [int(word) for word in words[1:]]
    try:
        if words[0] in ("program", "meaning", "loops"):
            place = ("program", "meaning", "loops").index(words[0])
            held[place] = (program_read, meaning_read, loops_read)[place](text)
            return "done"
        if words[0] == "make":
            held[2] = loops_of(held[0])
            return "done"
        return {
            "rules": lambda: program_text(held[0]), "things": lambda: meaning_text(held[1]),
            "kinds": lambda: " ".join(kind_of(held[0], name) for name in range(len(held[0]))),
            "can": lambda: "yes" if can_loop(held[0]) else "no",
            "asks": lambda: "\n".join("%d %d" % ask for ask in asks_at(*held[:2], *numbers)) or "-",
            "ends": lambda: "no" if ring_from(*held[:2], *numbers) else "yes",
            "answer": lambda: value_text(answer(*held[:2], *numbers)),
            "run": lambda: value_text(run(held[2], held[1], *numbers))}[words[0]]()
    except KINDS as error:
        return "refused " + error.__class__.__name__


def plain_desk(text):
    """The pair of the number of the first line that is none, or None, and of the replies."""
    for number, lines in parted(text):
        if not REQUEST.fullmatch(lines):
            return number, None
    held = list(AT_FIRST)
    return None, [plain_reply(held, lines) for number, lines in parted(text)]


def program_by_chance(dice):
    """RULES, most often a PROGRAM, of which loops_of may tell."""
    if dice.random() < 0.3:
        return rules_by_chance(dice, 2)
    while True:
        rules = nest_program(dice, 1, (path_rules, row_rules))
        if is_program(rules):
            return rules


def sheet_by_chance(dice):
    """The lines of some requests."""
    found = []
    for _ in range(dice.randint(1, 9)):
        kind = dice.randrange(8)
        if kind == 0:
            found.append(request("program", program_text(program_by_chance(dice))))
        elif kind == 1:
            found.append(request("meaning", meaning_text(meaning_by_chance(dice, dice.randint(1, 4)))))
        elif kind == 2:
            found.append(request("loops", loops_text(loops_by_chance(dice, 3))))
        elif kind == 3:
            found.append(dice.choice(("make", "rules", "things", "kinds", "can")))
        else:
            words = [dice.choice(("asks", "ends", "answer", "run"))] + [str(dice.choice((0, 0, 1, 2, 5))) for _ in range(2)]
            found.append(" ".join(words[:2] if words[0] == "run" else words))
    return "\n".join(found)


class RequestsTest(unittest.TestCase):

    def test_what_is_one_request(self):
        for text in (
                "make", "rules", "things", "kinds", "can", "asks 0 0", "ends 12 3", "answer 0 12", "run 0", "run 999999999",
                "asks 999999999 100000000", "program\n rule", "program\n ", "meaning\n\x20x\n y", "loops\n x", "loops\n \n \n ",
                "program\n  rule", "meaning\n meaning 1\n step 0"):
            self.assertIs(told(desk.is_request, text), True, text)
        for text in (
                "", "\n", " ", " make", "make ", "make\n", "make\n x", "make 0", "Make", "rule", "rules 1", "things\n ", "kinds ", "can\n can",
                "asks", "asks 0", "asks 0 ", "asks 0  0", "asks 0 0 0", "asks 00 0", "asks 0 01", "asks x 0", "asks 0 x", "asks -1 0",
                "asks 1000000000 0", "asks 0 1000000000", "run", "run ", "run 01", "run 0 0", "run 1234567890", "run  1", "run +1", "run 1\n",
                "run 0\n 0", "program", "program ", "program rule", "program\n", "program\nrule", "program\n rule\n", "program\n rule\nmake",
                "meaning", "loops", "loops 1 0\n block", "loops\n x\nloops\n y", "make\nmake", "\nmake", "ask 0 0", "answer 0", "ends", "end 0 0",
                "program\n rule\n\n rule", "run 1_0", "run \u0661", "asks 0\t0", "program\r\n rule", "make\n "):
            self.assertIs(told(desk.is_request, text), False, text)
        for thing in odd_things():
            self.assertIs(desk.is_request(thing), False)
        for thing in (("make",), ["make"], b"make", 5, None, ("run", 0)):
            self.assertIs(desk.is_request(thing), False)
        self.assertIs(desk.is_request("program\n " + "x" * 100000 + "\n y" * 5000), True)

    def test_bent_ones(self):
        counted = {True: 0, False: 0}
        for seed in range(1500):
            dice = chance(seed)
            text = mutated(dice, dice.choice(sheet_by_chance(dice).split("\n") + ["program\n rule", "run 12", "asks 1 22"]))
            expected = REQUEST.fullmatch(text) is not None
            counted[expected] += 1
            self.assertIs(desk.is_request(text), expected, text)
        self.assertTrue(min(counted.values()) > 100, counted)


class LinesTest(unittest.TestCase):

    def check_line(self, text, line):
        """desk raises BadLine(line)."""
        with self.assertRaises(errors.BadLine) as caught:
            told(desk.desk, text)
        self.assertEqual(caught.exception.line, line, text)
        self.assertEqual(plain_desk(text)[0], line, text)

    def test_lines_that_are_none(self):
        for text, line in (
                ("\n", 1), ("rules\n", 2), (" ", 1), (" rules", 1), (" rules\nrules", 1), (" \n \nrules", 1), ("\nrules", 1), ("rules\n\nrules", 2),
                ("rules\n rule", 1), ("rules\nprogram", 2), ("program\nrules", 1), ("rules\nprogram\n rule\n leaf x\nmaking\nmake", 5),
                (SHEET, 10), (SHEET + "\n", 10), (SHEET + "kinds\n", 11), (SHEET + "kinds\n more\ncan", 10), (SHEET + "run 0 0", 10),
                ("program\n rule\n\n leaf x", 3), ("make\nmake \nmake", 2), ("run 1234567890", 1), ("run 0\nrun 00", 2),
                ("program\n rule\nloops\nmeaning\n meaning 1", 3), ("run 0\nasks 0 0\nrun", 3), ("answer 0 0\n \n x\nrules", 1)):
            self.check_line(text, line)

    def test_before_all_else(self):
        # The requests ahead of it would be refused, or never come to an end.
        for text, line in (("answer 9 9\nrun 9\nnone", 3), ("program\n none\nmake\nnone", 4), ("meaning\n \nrun 0\n", 4)):
            self.check_line(text, line)

    def test_by_chance(self):
        bad = 0
        for seed in range(500):
            dice = chance(seed)
            text = sheet_by_chance(dice)
            for _ in range(dice.choice((0, 0, 1, 1, 2))):
                text = mutated(dice, text)
            line, replies = plain_desk(text)
            if line is None:
                self.assertEqual(told(desk.desk, text), replies, text)
            else:
                bad += 1
                self.check_line(text, line)
        self.assertTrue(80 < bad < 300, bad)


class RepliesTest(unittest.TestCase):

    def check(self, text, replies):
        """The replies to text, its requests being parted by line feeds."""
        self.assertEqual(told(desk.desk, text), replies)
        self.assertEqual(plain_desk(text), (None, replies))

    def test_at_first(self):
        self.check("", [])
        self.check("\n".join(ASKING), ["rule\nleaf x", "meaning 1", "still", "yes", "-", "yes", "0", "0"])
        self.check("run 1\nanswer 1 0\nanswer 0 1\nasks 0 1\nends 1 0", ["refused NoPlace"] * 5)

    def test_each_request(self):
        sheet = SHEET[:-1]
        self.check(sheet, ["done", "done"])
        self.check(sheet + "\nrules\nthings\nkinds\ncan", [
            "done", "done", "rule\nask 0\nleaf m0(x)\nleaf m1(f0.0,f0.0.0)", "meaning 3\nstep 1 2 2\ntest no no yes", "wide", "yes"])
        self.check(sheet + "\nasks 0 0\nasks 0 1\nasks 0 2\nends 0 0\nends 0 2\nanswer 0 1\nanswer 0 2", [
            "done", "done", "0 1\n0 2", "0 2", "-", "yes", "yes", "m1(m0(2),m0(2))", "m0(2)"])
        self.check(sheet + "\nrun 2\nmake\nrun 2\nrun 1\nrun 0", [
            "done", "done", "2", "done", "m0(2)", "m1(m0(2),m0(2))", "m1(m1(m0(2),m0(2)),m0(2))"])
        spin = "meaning\n meaning 2\n step 1 0\n test no no"
        self.check(sheet + "\n" + spin + "\nends 0 0\nasks 0 0\nanswer 0 0\nmake\nrun 0", [
            "done", "done", "done", "no", "0 0\n0 1", "refused CanNot", "done", "refused CanNot"])
        many = "program\n rule\n leaf m0(f1.0,f2)\n rule\n ask 4\n leaf x\n leaf f1.1\n rule\n ask 2\n leaf x.3\n leaf m1(f2.0,f2.1)"
        self.check(many + "\nkinds\ncan", ["done", "still path wide", "no"])

    def test_texts_of_several_lines(self):
        loops = request("loops", loops_text(LAST))
        meaning = request("meaning", "meaning 3\nstep 1 2 2\ntest no no yes")
        self.check(loops + "\n" + meaning + "\nrun 0\nrun 2", ["done", "done", "2", "2"])
        for seed in range(40):
            dice = chance(seed)
            own, sense = loops_by_chance(dice), meaning_by_chance(dice, 3, 2, 2)
            text = request("loops", loops_text(own)) + "\n" + request("meaning", meaning_text(sense)) + "\nrun 0\nrun 1\nrun 2\nthings"
            replies = desk.desk(text)
            self.assertEqual(replies, plain_desk(text)[1])
            self.assertEqual(replies[-1], meaning_text(sense))

    def test_empty_texts(self):
        for word in ("program", "meaning", "loops"):
            self.check(word + "\n ", ["refused BadLine"])
            self.check(word + "\n \n \nrules", ["refused BadLine", "rule\nleaf x"])
        self.check("meaning\n meaning 2\n ", ["refused BadLine"])
        self.check("meaning\n meaning 2", ["done"])
        self.check("program\n  rule\n leaf x", ["refused BadLine"])

    def test_each_refusal(self):
        ring, endless = "program\n rule\n leaf f0", "program\n rule\n leaf m0(f0.0)"
        unfit, bad = "program\n rule\n leaf f1.0", "program\n rule"
        self.check("\n".join((ring, endless, unfit, bad)), ["refused Ring", "refused Endless", "refused Unfit", "refused BadLine"])
        self.check("loops\n loops 1 0\n block\n stop 1\nloops\n loops 0 0\nmeaning\n meaning 1\n step 1", [
            "refused Unfit", "refused BadLine", "refused BadLine"])
        stepping = "program\n rule\n ask 0\n leaf x.5\n leaf f0.0\n"
        self.check(stepping + "asks 0 0\nends 0 0\nanswer 0 0\nasks 9 9\nrun 0\nmake\nrun 0", ["done"] + ["refused Unfit"] * 4 + ["0", "done", "refused Unfit"])
        unplain = "program\n rule\n ask 0\n leaf x\n ask 1\n leaf f0.0\n leaf m0(f0.0,f0.1)\n"
        self.check(unplain + "can\nmake\nkinds", ["done", "refused Unfit", "refused Unfit", "wide"])
        crossing = "program\n rule\n ask 0\n leaf x\n leaf m0(f0.1.0,f0.0.1)\n"
        self.check(crossing + "can\nmake", ["done", "no", "refused CanNot"])
        long = "program\n rule\n ask 0\n leaf x\n leaf m0(f0.0,f0" + ".0" * 12 + ")\n"
        self.check(long + "can\nmake", ["done", "yes", "refused TooMuch"])
        fault = "loops\n loops 2 0\n block\n stop 1\n"
        self.check(fault + "run 0\nrun 1", ["done", "refused CanNot", "refused NoPlace"])
        self.check(request("loops", loops_text(counting(2000))) + "\nrun 0", ["done", "0"])
        # Four FLAGS less would do: so many blocks are done before anything comes again.
        flags = 15
        count = "loops 1 %d" % flags
        for flag in range(flags):
            count += "\nblock\nseen %d %d %d\nblock" % (flag, 2 * flag + 2, 2 * flag + 1)
            count += "".join("\nflag %d down" % lower for lower in range(flag)) + "\nflag %d up\ngo 0" % flag
        self.check(request("loops", count + "\nblock\nstop 0") + "\nrun 0", ["done", "refused TooMuch"])
        great = "program\n rule\n ask 0\n leaf x\n leaf m0(f0.0,f0.0,f0.0,f0.0)\nmeaning\n meaning 7\n step 1 2 3 4 5 6 6\n test" + " no" * 6 + " yes\n"
        self.check(great + "answer 0 0\nanswer 0 3\nends 0 0\nanswer 0 7\nanswer 1 7", [
            "done", "done", "refused TooMuch", "m0(%s)" % ",".join(["m0(%s)" % ",".join(["m0(6,6,6,6)"] * 4)] * 4), "yes",
            "refused NoPlace", "refused NoPlace"])

    def test_a_refused_request_changes_nothing(self):
        refused = (
            "program\n rule", "program\n rule\n leaf f0", "program\n rule\n leaf m0(f0.0)", "program\n rule\n leaf f7.0", "meaning\n meaning 0",
            "meaning\n meaning 2\n step 1", "loops\n loops 1 0", "loops\n loops 1 0\n block\n go 1", "program\n \nmeaning\n \nloops\n ")
        before = desk.desk(SHEET + "make\n" + "\n".join(ASKING))
        for own in refused:
            replies = desk.desk(SHEET + "make\n" + own + "\n" + "\n".join(ASKING))
            self.assertEqual(replies[:3] + replies[-len(ASKING):], before, own)
            self.assertTrue(all(reply.startswith("refused ") for reply in replies[3:-len(ASKING)]), own)
            self.assertEqual(desk.desk(own + "\n" + "\n".join(ASKING))[-len(ASKING):], desk.desk("\n".join(ASKING)))
        # LOOPS that can not be made leave those that were held.
        crossing = "program\n rule\n ask 0\n leaf x\n leaf m0(f0.1.0,f0.0.1)\nmeaning\n meaning 1\n step 0\n step 0\n test yes\n"
        self.check(SHEET + "make\n" + crossing + "make\nrun 0\nrules", [
            "done", "done", "done", "done", "done", "refused CanNot", "m0(0)", "rule\nask 0\nleaf x\nleaf m0(f0.1.0,f0.0.1)"])

    def test_each_desk_is_its_own(self):
        found = desk.desk(text="rules\ncan")
        found.append("done")
        self.assertEqual(desk.desk("rules\ncan"), ["rule\nleaf x", "yes"])
        first = desk.desk("rules\n" + SHEET + "make\nrules")
        self.assertEqual(first[0], "rule\nleaf x")
        self.assertEqual(desk.desk("rules\n" + SHEET + "make\nrules"), first)
        self.assertEqual(desk.desk("rules\nthings\nrun 0"), ["rule\nleaf x", "meaning 1", "0"])

    def test_all_kinds_of_replies_come(self):
        kinds = {}
        for seed in range(400):
            for reply in plain_desk(sheet_by_chance(chance(seed)))[1] or ():
                kind = reply if reply.startswith("refused") or reply in ("done", "yes", "no", "-") else reply.split(" ")[0][:4]
                kinds[kind] = kinds.get(kind, 0) + 1
        for kind in ("done", "yes", "no", "-", "refused NoPlace", "refused Unfit", "refused CanNot", "refused Endless", "mean", "rule"):
            self.assertGreater(kinds.get(kind, 0), 0, (kind, kinds))


if __name__ == "__main__":
    unittest.main()
