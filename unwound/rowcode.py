"""Code for COMPONENTS with ROWS: the answers come from the last place of the row to the first one.

A hand s stands at some place of the row. From there a hand y goes on, from place 0 a hand z, as many places
each; when nothing is asked behind the place of y, the answers of those asked at the place of z are made from
the ones behind it. Then s goes on one place. FLAGS tell for each hand which NAMES are asked at its place and
further on.

Where y and z are on the row of ROWS is told by the block, as far as it matters: turn is the least multiple of
the length of the row that is more than the reach, and all is the same so many places further on. Of s it is
told by which of its FLAGS are up: they stand for places counted from its own.
"""

from unwound.programs import still_order
from unwound.rows import rows_of
from unwound.sheets import copy_deeds, flags_deeds, most_parts, rule_code, steps_deeds, term_code


class RowCode:
    """The code by which the NAME first of a row is answered into target, and goes on at the block after."""

    def __init__(self, sheet, first, target, after, answer_code):
        self.sheet = sheet
        self.first = first
        self.target = target
        self.after = after
        self.answer_code = answer_code
        names, self.row, places = rows_of(sheet.rules, first)
        self.place_of = {name: place for name, place in zip(names, places)}
        self.order = [name for name in still_order(sheet.rules) if name in names]
        words = [word for name in names for calls in sheet.table[name] for called, word in calls]
        self.span = list(range(max([len(word) for word in words]) + 1))
        self.turn = len(self.row) * ((len(self.span) - 1) // len(self.row) + 1)
        self.take_frame()
        self.next_s = sheet.room()
        self.answers_at = [sheet.room() for _ in self.row]
        self.pairs = {}

    def take_frame(self):
        """Tells what stands for what in the frame of the COMPONENT."""
        home, many = self.sheet.homes[self.first], len(self.order) * len(self.span)
        cells, flags = self.sheet.frame(home, 4 + many + most_parts(self.sheet, home), 3 * many)
        self.start, self.s, self.y, self.z = cells[:4]
        self.for_parts = cells[4 + many:]
        spots = [(name, ahead) for name in self.order for ahead in self.span]
        self.answers = {spot: cell for spot, cell in zip(spots, cells[4:])}
        self.s_flags = {spot: flag for spot, flag in zip(spots, flags)}
        turned = [
            (hand, name, at) for hand in (self.y, self.z) for name in self.order
            for at in range(self.place_of[name], self.turn, len(self.row))]
        self.flags = {spot: flag for spot, flag in zip(turned, flags[many:])}

    def names_at(self, at):
        """The list of the NAMES that can be asked at this place, each behind those that it calls there."""
        return [name for name in self.order if self.place_of[name] == at % len(self.row)]

    def flag(self, hand, name, at, ahead):
        """The FLAG that tells of a hand at this place that name is asked so many places ahead."""
        return self.s_flags[(name, ahead)] if hand == self.s else self.flags[(hand, name, (at + ahead) % self.turn)]

    def flags_at(self, hand, at):
        """The FLAGS that tell which NAMES are asked at the place of hand itself."""
        return [self.flag(hand, name, at, 0) for name in self.names_at(at)]

    def ahead(self, at):
        """The list of the pairs (NAME, how far ahead) that can be asked behind this place, the nearest first."""
        return [(name, far) for far in self.span if far for name in self.names_at(at + far)]

    def hand_flags(self, hand):
        """All FLAGS of y, or of z."""
        return [self.flags[spot] for spot in self.flags if spot[0] == hand]

    def written(self):
        """The pair of the cell in which the thing is to lie and of the first block."""
        self.sheet.fill(self.next_s, self.next_s_code())
        for at, number in enumerate(self.answers_at):
            self.sheet.fill(number, self.answers_code(at))
        self.pairs_code()
        deeds = copy_deeds(self.s, self.start) + flags_deeds(list(self.s_flags.values()), False)
        deeds += flags_deeds([self.s_flags[(self.first, 0)]], True)
        # Each of these cells holds something from now on, so all can be moved on at once.
        for spot in self.answers:
            deeds += copy_deeds(self.answers[spot], self.start)
        return self.start, self.sheet.block(deeds, ("go", self.s_code(self.place_of[self.first])))

    def pairs_code(self):
        """Writes the blocks for y and z at all places at which they are at one time."""
        first, turn = self.place_of[self.first], self.turn
        for at in range(turn):
            for ahead in range(len(self.row)):
                pair = ((at + ahead) % turn, (first + at) % turn)
                self.sheet.fill(self.pair_room(pair), self.pair_code(pair))

    def pair_room(self, pair):
        """The number of the block for a pair of places of y and z."""
        if pair not in self.pairs:
            self.pairs[pair] = self.sheet.room()
        return self.pairs[pair]

    def asking_code(self, hand, at, after):
        """The block from which those asked at the place of hand ask, as FLAGS tell; it goes on at after."""
        for name in self.names_at(at):
            after = self.one_asking(hand, at, name, after)
        return after

    def one_asking(self, hand, at, name, after):
        """The block from which name asks if it is asked at the place of hand."""
        def onward(number):
            ups = [self.flag(hand, called, at, len(word)) for called, word in self.sheet.table[name][number]]
            return self.sheet.block(flags_deeds(ups, True), ("go", after)) if ups else after
        asks = rule_code(self.sheet, name, hand, onward)
        return self.sheet.block((), ("seen", self.flag(hand, name, at, 0), asks, after))

    def further_code(self, hand, at, more, last):
        """The block from which it goes on at more if something is asked behind the place of hand, else at last."""
        onward = last
        for name, far in reversed(self.ahead(at)):
            onward = self.sheet.block((), ("seen", self.flag(hand, name, at, far), more, onward))
        return onward

    def next_s_code(self):
        """The block from which it is told where s stands; if nothing is asked from there on, all is done."""
        copied = copy_deeds(self.target, self.answers[(self.first, 0)])
        onward = self.sheet.block(copied, ("go", self.after))
        heads = [self.s_code(at) for at in range(len(self.row))]
        for far in reversed(self.span):
            for name in self.order:
                head = heads[(self.place_of[name] - far) % len(self.row)]
                onward = self.sheet.block((), ("seen", self.s_flags[(name, far)], head, onward))
        return onward

    def s_code(self, at):
        """The block from which s, at this place of the row, asks, and y and z set out; behind the last place
        at which something is asked z stays at place 0."""
        down = flags_deeds(self.flags_at(self.s, at), False)
        first = self.place_of[self.first]
        set_out = flags_deeds(self.hand_flags(self.z), False) + copy_deeds(self.z, self.start)
        set_out += flags_deeds([self.flag(self.z, self.first, first, 0)], True)
        last = self.sheet.block(down + set_out, ("go", self.making_code(first)))
        more = self.pair_room((at, first))
        for name, far in reversed(self.ahead(at)):
            flag = self.s_flags[(name, far)]
            moved = flags_deeds([flag], False) + flags_deeds(
                [self.s_flags[(name, far - 1)], self.flag(self.y, name, at, far)], True)
            more = self.sheet.block((), ("seen", flag, self.sheet.block(moved, ("go", more)), more))
        set_out += flags_deeds(self.hand_flags(self.y), False) + copy_deeds(self.y, self.s)
        more = self.sheet.block(down + set_out + self.step_deeds(self.s, at), ("go", more))
        return self.asking_code(self.s, at, self.further_code(self.s, at, more, last))

    def step_deeds(self, hand, at):
        """The deed that leads hand on from this place."""
        return steps_deeds(hand, (self.row[at % len(self.row)],))

    def pair_code(self, pair):
        """The block from which z asks, z and y go on a place, and y asks there; if nothing is asked behind it,
        the answers at z are made."""
        y_at, z_at = pair
        y_then, z_then = (y_at + 1) % self.turn, (z_at + 1) % self.turn
        onward = self.further_code(self.y, y_then, self.pair_room((y_then, z_then)), self.making_code(z_then))
        down = flags_deeds(self.flags_at(self.y, y_at) + self.flags_at(self.z, z_at), False)
        deeds = down + self.step_deeds(self.y, y_at) + self.step_deeds(self.z, z_at)
        return self.asking_code(
            self.z, z_at, self.sheet.block(deeds, ("go", self.asking_code(self.y, y_then, onward))))

    def making_code(self, at):
        """The block from which the answers at z, at this place, are made. Those asked there are told, then, by
        the FLAGS of the first such place of the row, whatever it is."""
        near = at % len(self.row)
        onward = self.answers_at[near]
        for name in self.names_at(at) if near != at else ():
            one, other = self.flag(self.z, name, at, 0), self.flag(self.z, name, near, 0)
            up, down = [self.sheet.block(flags_deeds([other], held), ("go", onward)) for held in (True, False)]
            onward = self.sheet.block((), ("seen", one, up, down))
        return self.at_once_code(at, onward)

    def at_once_code(self, at, onward):
        """The block from which those asked at z ask those that are asked there without a STEP, if any can be."""
        calls = [call for name in self.names_at(at) for leaf in self.sheet.table[name] for call in leaf]
        return self.asking_code(self.z, at, onward) if any([not word for called, word in calls]) else onward

    def answers_code(self, at):
        """The block from which the answers at z, at this place of the row, are made, and s goes on."""
        onward = self.next_s
        for name in reversed(self.names_at(at)):
            onward = self.one_answer(name, at, onward)
        deeds = []
        for far in reversed(self.span[1:]):
            for name in self.order:
                deeds += copy_deeds(self.answers[(name, far)], self.answers[(name, far - 1)])
        return self.sheet.block(deeds, ("go", onward))

    def one_answer(self, name, at, after):
        """The block from which the answer of name at z is made if it is asked there."""
        def onward(number):
            own_cells = {
                (called, word): self.answers[(called, len(word))]
                for called, word in self.sheet.table[name][number]}
            spot = (self.z, self.for_parts, own_cells)
            return term_code(
                self.sheet, self.sheet.leaves[name][number], spot, self.answers[(name, 0)], after, self.answer_code)
        made = rule_code(self.sheet, name, self.z, onward)
        return self.sheet.block((), ("seen", self.flag(self.z, name, at, 0), made, after))
