"""SHEETS on which LOOPS are written from behind: where a block goes on is written ahead of the block.

The code for a COMPONENT may be written more than once, but it is never at work twice at one time: so it has
one frame of CELLS and FLAGS, the first of its CELLS being the one in which it finds the thing.
"""

from unwound.loops import tidied
from unwound.programs import homes_of, leaves_of, own_table, rule_folded
from unwound.terms import parts_with_places


class Sheet:
    """The blocks of LOOPS for a PROGRAM, as far as they are written."""

    def __init__(self, rules):
        self.leaves = [leaves_of(rule) for rule in rules]
        self.homes = homes_of(rules)
        self.table = own_table(rules)
        self.rules = rules
        self.blocks = [None]
        self.numbers = {}
        self.frames = {}
        self.many_cells = 0
        self.many_flags = 0

    def frame(self, home, cells, flags):
        """The lists of the CELLS and of the FLAGS of the COMPONENT home, so many; taken the first time."""
        if home not in self.frames:
            self.frames[home] = (
                [self.many_cells + number for number in range(cells)],
                [self.many_flags + number for number in range(flags)])
            self.many_cells += cells
            self.many_flags += flags
        own_cells, own_flags = self.frames[home]
        return list(own_cells), list(own_flags)

    def block(self, deeds, end):
        """The number of a block with these deeds and this end; one like it is not written again."""
        written = (tuple(deeds), end)
        if written not in self.numbers:
            self.numbers[written] = self.room()
            self.blocks[-1] = written
        return self.numbers[written]

    def room(self):
        """The number of a block that is left for later."""
        self.blocks.append(None)
        return len(self.blocks) - 1

    def fill(self, number, onward):
        """Fills a block that was left for later: it goes on at the block onward."""
        self.blocks[number] = ((), ("go", onward))

    def loops(self, first):
        """The LOOPS that begin with the block first."""
        self.fill(0, first)
        blocks = [self.joined(number) for number in range(len(self.blocks))]
        return tidied((self.many_cells, self.many_flags, tuple(blocks)))

    def joined(self, number):
        """The block of this number with those put behind its deeds to which it just goes on."""
        deeds, end = self.blocks[number]
        met = set()
        while end[0] == "go" and end[1] not in met:
            met.add(end[1])
            more, end = self.blocks[end[1]]
            deeds = deeds + more
        return deeds, end


def most_parts(sheet, home):
    """The most unlike parts that a leaf of the NAMES of home has."""
    return max([len(parts_with_places(leaf)) for name in home for leaf in sheet.leaves[name]])


def steps_deeds(cell, word):
    """The deeds that lead the thing in cell by word."""
    return [("step", cell, step) for step in word]


def copy_deeds(cell, source):
    """The deeds by which cell holds what lies in source."""
    return [] if cell == source else [("copy", cell, source)]


def flags_deeds(flags, up):
    """The deeds that put flags up, or down."""
    return [("flag", flag, up) for flag in flags]


def number_deeds(flags, number):
    """The deeds by which flags tell number, the first of them its lowest bit."""
    return [("flag", flag, number >> place & 1 == 1) for place, flag in enumerate(flags)]


def number_code(sheet, flags, onward):
    """The block from which it goes on at the place in onward of the number that flags tell."""
    row = list(onward)
    for flag in flags:
        pairs = [row[place:place + 2] for place in range(0, len(row), 2)]
        row = [pair[0] if len(pair) == 1 else sheet.block((), ("seen", flag, pair[1], pair[0])) for pair in pairs]
    return row[0]


def rule_code(sheet, name, cell, onward):
    """The block from which the RULE of name asks its TESTS of the thing in cell; from its leaf of each
    number it goes on at the block onward(number)."""
    return rule_folded(
        sheet.rules[name], lambda number, leaf: onward(number),
        lambda test, yes, no: yes if yes == no else sheet.block((), ("ask", test, cell, yes, no)))


def term_code(sheet, term, spot, target, after, answer_code):
    """The block from which target comes to hold what term comes to, and it goes on at the block after.

    spot is a triple: the cell of the thing for which it is told; cells for its parts; a dict with, for each
    own call, the cell in which its answer lies. Nothing is put into target until it is the last deed.
    """
    parts, deeds = parts_with_places(term), []
    cells = _part_cells(parts, spot, target)
    for (part, places), cell in reversed(list(zip(parts, cells))):
        if part[0] == "call" and part[1:] not in spot[2]:
            back = sheet.block(deeds, ("go", after))
            first, after = answer_code(sheet, part[1], cell, back)
            deeds = copy_deeds(first, spot[0]) + steps_deeds(first, part[2])
        else:
            deeds = _part_deeds(part, [cells[place] for place in places], cell, spot) + deeds
    return sheet.block(deeds, ("go", after))


def _part_cells(parts, spot, target):
    """The list of the cells in which parts come to lie, the last one in target."""
    here, free, own_cells = spot
    cells = []
    for (part, _), cell in zip(parts[:-1], free):
        if part == ("at", ()):
            cells.append(here)
        else:
            cells.append(own_cells.get(part[1:], cell) if part[0] == "call" else cell)
    return cells + [target]


def _part_deeds(part, sources, cell, spot):
    """The deeds by which a part, no call but an own one, comes to lie in cell."""
    if part[0] == "make":
        return [("make", cell, part[1], tuple(sources))]
    if part[0] == "call":
        return copy_deeds(cell, spot[2][part[1:]])
    return copy_deeds(cell, spot[0]) + steps_deeds(cell, part[1])
