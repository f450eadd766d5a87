"""Code for COMPONENTS that are paths: the answers come from the last ASK of the CHAIN to the first one.

A hand s stands at some ASK of the CHAIN. From there a hand y goes on, from the first ASK a hand z, as many
calls each; when y is at the last ASK, the answer of the ASK at z is made from that of the next one. Then s
goes on one call. Which NAMES y and z stand at is told by the block, that of s by FLAGS.
"""

from unwound.sheets import copy_deeds, most_parts, number_code, number_deeds, rule_code, steps_deeds, term_code


class PathCode:
    """The code by which the NAME first of a path is answered into target, and goes on at the block after."""

    def __init__(self, sheet, first, target, after, answer_code):
        self.sheet = sheet
        self.home = sheet.homes[first]
        self.first = first
        self.target = target
        self.after = after
        self.answer_code = answer_code
        bits = (len(self.home) - 1).bit_length()
        cells, self.at_s = sheet.frame(self.home, 5 + most_parts(sheet, self.home), bits)
        self.start, self.s, self.y, self.z, self.made = cells[:5]
        self.for_parts = cells[5:]
        self.pairs = {(one, other): sheet.room() for one in self.home for other in self.home}
        self.next_s = sheet.room()
        self.makings = {}

    def written(self):
        """The pair of the cell in which the thing is to lie and of the first block."""
        self.makings = {name: self._makings_code(name) for name in self.home}
        for one, other in self.pairs:
            self.sheet.fill(self.pairs[(one, other)], self._pair_code(one, other))
        self.sheet.fill(self.next_s, number_code(self.sheet, self.at_s, [self._s_code(name) for name in self.home]))
        return self.start, self._set_out(copy_deeds(self.s, self.start), self.first)

    def _own_call(self, name, number):
        """The own call of the leaf number of name; None if it has none."""
        calls = self.sheet.table[name][number]
        return calls[0] if calls else None

    def _set_out(self, deeds, name):
        """The block from which deeds lead s to name, and y and z set out."""
        told = number_deeds(self.at_s, self.home.index(name))
        hands = copy_deeds(self.y, self.s) + copy_deeds(self.z, self.start)
        return self.sheet.block(deeds + told + hands, ("go", self.pairs[(name, self.first)]))

    def _pair_code(self, one, other):
        """The block from which it goes on with y at one and z at other."""
        return rule_code(self.sheet, one, self.y, lambda number: self._y_code(self._own_call(one, number), other))

    def _y_code(self, call, other):
        """The block from which y goes on by call, then z from other; if there is no call, the answer at z is made."""
        if call is None:
            return self.makings[other]
        onward = rule_code(
            self.sheet, other, self.z, lambda number: self._z_code(self._own_call(other, number), call[0], other))
        return self.sheet.block(steps_deeds(self.y, call[1]), ("go", onward))

    def _z_code(self, call, one, other):
        """The block from which z goes on by call while y is at one. Without a call z would be at the end ahead
        of y: that never comes."""
        if call is None:
            return self.makings[other]
        return self.sheet.block(steps_deeds(self.z, call[1]), ("go", self.pairs[(one, call[0])]))

    def _makings_code(self, name):
        """The block from which the answer at z is made while z is at name, and s goes on."""
        return rule_code(self.sheet, name, self.z, lambda number: self._making_code(name, number))

    def _making_code(self, name, number):
        """The block from which it is made by the leaf number of name."""
        own_cells = {call: self.made for call in self.sheet.table[name][number]}
        spot = (self.z, self.for_parts, own_cells)
        return term_code(
            self.sheet, self.sheet.leaves[name][number], spot, self.made, self.next_s, self.answer_code)

    def _s_code(self, name):
        """The block from which s goes on one call from name, or all is done."""
        return rule_code(self.sheet, name, self.s, lambda number: self._s_on(self._own_call(name, number)))

    def _s_on(self, call):
        """The block from which s goes on by call, or all is done."""
        if call is None:
            return self.sheet.block(copy_deeds(self.target, self.made), ("go", self.after))
        return self._set_out(steps_deeds(self.s, call[1]), call[0])
