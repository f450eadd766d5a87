"""One walk: spines, whose answers one hand makes on its way where their MAKER is associative [20]."""

from unwound.common import frozen, is_natural, is_tuple
from unwound.errors import CanNot, Unfit
from unwound.programs import leaves_of
from unwound.sheets import Sheet, rule_code, steps_deeds, term_code
from unwound.terms import calls_in, folded, is_term, making, occurrences, parts_in_order


def combed(one, maker):
    """The combed TERM or VALUE to which one comes."""
    return folded(frozen(one), lambda part: part, lambda own, terms: _combed_making(own, terms, maker))


def _combed_making(own, terms, maker):
    """What own makes of combed terms, combed by maker."""
    if own != maker or len(terms) != 2:
        return making(own, terms)
    firsts, rest = [], terms[0]
    while rest[0] == "make" and rest[1] == maker and len(rest[2]) == 2:
        firsts.append(rest[2][0])
        rest = rest[2][1]
    made = terms[1]
    for first in [rest] + firsts[::-1]:
        made = making(maker, (first, made))
    return made


def alike_by(one, other, maker):
    """True if both come to the same combed one."""
    return combed(one, maker) == combed(other, maker)


def is_spine(program):
    """True if program is a spine."""
    return _body_of(frozen(program)) is not None


def _body_of(rules):
    """The place of the leaf that is the body of a spine; None if rules are no spine."""
    if len(rules) > 1:
        return None
    many = [len(calls_in(leaf)) for leaf in leaves_of(rules[0])]
    return many.index(1) if sorted(many) == [0, 1] else None


def _spine(program):
    """The pair of program, with tuples for lists, and of its body, if it is a spine."""
    rules = frozen(program)
    place = _body_of(rules)
    if place is None:
        raise Unfit()
    return rules, leaves_of(rules[0])[place]


def _calls_standing(term):
    """How many calls stand in term."""
    return len([part for part in occurrences(term) if part[0] == "call"])


def _way(body):
    """The list of the makings within which the call of body stands, which it does once, each a pair of its MAKER and
    of its terms, None standing for the one with the call."""
    way, term = [], body
    while term[0] == "make":
        terms = [None if _calls_standing(part) else part for part in term[2]]
        way.append((term[1], terms))
        term = term[2][terms.index(None)]
    return way


def _bars(body):
    """The list of the BARS of a spine with this body, the first one first."""
    if _calls_standing(body) > 1:
        return [("twice",)]
    way, found = _way(body), []
    for place, (maker, terms) in enumerate(way):
        if len(terms) != 2:
            found.append(("parts", place))
        if maker != way[0][0]:
            found.append(("makers", place))
    return found


def sides(program):
    """The SIDES of program."""
    rules, body = _spine(program)
    return _sides_of(body)


def _sides_of(body):
    """The SIDES of a spine with this body."""
    if _bars(body):
        raise CanNot()
    way = _way(body)
    lefts = tuple([terms[0] for maker, terms in way if terms[0] is not None])
    rights = tuple([terms[1] for maker, terms in way if terms[1] is not None])
    return (way[0][0] if way else None), lefts, rights


def is_sides(program, thing):
    """True if thing is the SIDES of program."""
    rules, body = _spine(program)
    if not is_tuple(thing, 3) or not (thing[0] is None or is_natural(thing[0])) or _bars(body):
        return False
    # Each part is tested by itself: True would be equal to 1.
    if not all(isinstance(terms, tuple) and all(is_term(term) for term in terms) for terms in thing[1:]):
        return False
    return thing == _sides_of(body)


def walk_bar(program):
    """The first BAR of program."""
    rules, body = _spine(program)
    bars = _bars(body)
    if not bars:
        raise CanNot()
    return bars[0]


def is_walk_bar(program, thing):
    """True if thing is one of the BARS of program."""
    rules, body = _spine(program)
    if not isinstance(thing, tuple):
        return False
    return all(is_natural(place) for place in thing[1:]) and thing in _bars(body)


def walk_loops(program):
    """LOOPS that stop with a VALUE alike to the answer wherever the MAKER of the SIDES is associative; they ask the
    TEST once of each thing that is asked for."""
    rules, body = _spine(program)
    found = _sides_of(body)
    return WalkCode(Sheet(rules), _body_of(rules), found).written()


class WalkCode:
    """The code for a spine with SIDES: what stands left of the call is gathered, thing by thing, in one cell, what
    stands right of it in another one."""

    def __init__(self, sheet, body_place, found):
        self.sheet = sheet
        self.body_place = body_place
        self.maker, self.lefts, self.rights = found
        terms = self.lefts + self.rights + (sheet.leaves[0][1 - body_place],)
        cells, _ = sheet.frame((0,), 3 + max([len(parts_in_order(term)) for term in terms]), 0)
        self.here, self.left, self.right = cells[:3]
        self.free, self.made = cells[3:-1], cells[-1]
        self.on_again = sheet.room()

    def written(self):
        """The LOOPS."""
        self.sheet.fill(self.on_again, self.asking_code(True))
        return self.sheet.loops(self.asking_code(False))

    def asking_code(self, gathered):
        """The block from which the TEST is asked of the next thing; gathered tells if it is not the first one."""
        return rule_code(
            self.sheet, 0, self.here,
            lambda number: self.body_code(gathered) if number == self.body_place else self.end_code(gathered))

    def body_code(self, gathered):
        """The block from which the sides there are gathered, and the next thing is gone on to."""
        word = calls_in(self.sheet.leaves[0][self.body_place])[0][1]
        after = self.sheet.block(steps_deeds(self.here, word), ("go", self.on_again))
        after = self.sides_code(self.rights, self.right, (self.made, self.right), gathered, after)
        return self.sides_code(self.lefts, self.left, (self.left, self.made), gathered, after)

    def sides_code(self, terms, cell, joined, gathered, after):
        """The block from which terms are gathered in cell, the outermost first: each is joined to what lies there,
        if something does."""
        for place in reversed(range(len(terms))):
            target = cell
            if gathered or place:
                target = self.made
                after = self.sheet.block([("make", cell, self.maker, joined)], ("go", after))
            after = self.made_code(terms[place], target, after)
        return after

    def end_code(self, gathered):
        """The block from which the end is made, and joined to what is gathered."""
        deeds = []
        if gathered and self.lefts:
            deeds.append(("make", self.made, self.maker, (self.left, self.made)))
        if gathered and self.rights:
            deeds.append(("make", self.made, self.maker, (self.made, self.right)))
        stop = self.sheet.block(deeds, ("stop", self.made))
        return self.made_code(self.sheet.leaves[0][1 - self.body_place], self.made, stop)

    def made_code(self, term, target, after):
        """The block from which target comes to hold what term comes to."""
        return term_code(self.sheet, term, (self.here, self.free, {}), target, after, None)
