"""PROGRAMS as a MEANING asks them [8]: what RULES and WORDS tell is read once for all ASKS that come to it.

A leaf is read as a list of triples, in the order of its parts, each behind its own: ("at", None, table) and
("call", name, table), table telling for each thing that to which the WORD leads; ("make", maker, many), many
being how many terms it has. PROGRAM and MEANING may have lists for tuples: nothing of them is told as it stands.
"""

from unwound.programs import rule_folded
from unwound.terms import occurrences


class Asking:
    """A PROGRAM and a MEANING for it, and what has been read of them."""

    def __init__(self, program, meaning):
        self.program = program
        self.many = meaning[0]
        self.steps = meaning[1]
        self.tests = meaning[2]
        self.rules = {}
        self.tables = {}

    def leaf_of(self, ask):
        """What leaf_read tells of the leaf of ask."""
        name, x = ask
        if name not in self.rules:
            self.rules[name] = self.rule_read(name)
        choice = self.rules[name]
        while choice[0] == "ask":
            choice = choice[2] if choice[1][x] else choice[3]
        return choice

    def rule_read(self, name):
        """The RULE of name, with what its TESTS tell of things in the place of the TESTS."""
        return rule_folded(
            self.program[name], lambda number, leaf: self.leaf_read(leaf),
            lambda test, yes, no: ("ask", self.tests[test], yes, no))

    def leaf_read(self, leaf):
        """The triple of "leaf", what leaf is read as, and the list of the pairs (name, table) of its calls."""
        parts, calls = [], []
        for part in occurrences(leaf):
            if part[0] == "make":
                parts.append(("make", part[1], len(part[2])))
            elif part[0] == "call":
                table = self.table_of(part[2])
                calls.append((part[1], table))
                parts.append(("call", part[1], table))
            else:
                parts.append(("at", None, self.table_of(part[1])))
        return "leaf", parts, calls

    def table_of(self, word):
        """The thing to which word leads, for each thing."""
        key = tuple(word)
        if key not in self.tables:
            table = self.steps[key[0]] if key else list(range(self.many))
            for step in key[1:]:
                table = [self.steps[step][x] for x in table]
            self.tables[key] = table
        return self.tables[key]

    def asked_by(self, ask):
        """The list of the ASKS for which ask asks, each as often as its calls stand."""
        return [(name, table[ask[1]]) for name, table in self.leaf_of(ask)[2]]

    def asks_from(self, ask):
        """A dict of all ASKS that can be come to from ask, itself too."""
        found, waiting = {ask: True}, [ask]
        while waiting:
            here = waiting.pop()
            for asked in self.asked_by(here):
                if asked not in found:
                    found[asked] = True
                    waiting.append(asked)
        return found

    def ending(self, asks):
        """A dict with, for each ASK that ends and can be come to from asks, its leaf as it is read.

        Each ASK stands behind all for which it asks. An ASK waits below those for which it asks; if it
        still lacks one when its turn comes again, it comes to a RING.
        """
        ended, met, waiting = {}, {}, list(asks)
        while waiting:
            ask = waiting[-1]
            if ask not in met:
                _, parts, calls = self.leaf_of(ask)
                met[ask] = parts, [(name, table[ask[1]]) for name, table in calls]
                waiting.extend([asked for asked in met[ask][1] if asked not in met])
            else:
                waiting.pop()
                parts, asked_for = met[ask]
                if ask not in ended and all([asked in ended for asked in asked_for]):
                    ended[ask] = parts
        return ended


def told_by(ending, of_thing, of_make):
    """For each ASK of ending: what its answer comes to if each ("thing", x) comes to of_thing(x), and each
    making to of_make(maker, values), values being the list of what its own values come to."""
    told = {}
    for ask, parts in ending.items():
        x, values = ask[1], []
        for kind, head, rest in parts:
            if kind == "call":
                values.append(told[(head, rest[x])])
            elif kind == "at":
                values.append(of_thing(rest[x]))
            else:
                made = of_make(head, values[-rest:])
                del values[-rest:]
                values.append(made)
        told[ask] = values[0]
    return told
