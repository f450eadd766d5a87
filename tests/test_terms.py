"""unwound.terms [5]."""

import unittest

from tests.support import chance, nested, odd_things, term_by_chance, told, variants, word_by_chance
from unwound import terms

X = ("at", ())
DEEP = nested(49, lambda value: ("make", 3, (value or X,)))


def plain_parts(term):
    """All parts of term as they stand, each behind the parts within it."""
    within = term[2] if term[0] == "make" else ()
    return [part for own in within for part in plain_parts(own)] + [term]


def plain_unlike(term):
    """The unlike parts of term in order."""
    found = []
    for part in plain_parts(term):
        if part not in found:
            found.append(part)
    return tuple(found)


def plain_set(values):
    """The values, ascending, without duplicates."""
    return tuple(sorted(set(values)))


def plain_depth(term):
    return 1 + max(plain_depth(part) for part in term[2]) if term[0] == "make" else 0


def plain_led(term, word):
    if term[0] == "at":
        return "at", word + term[1]
    if term[0] == "call":
        return "call", term[1], word + term[2]
    return "make", term[1], tuple(plain_led(part, word) for part in term[2])


def plain_filled(term, answers):
    if term[0] == "call":
        return next((own for call, own in answers if call == term[1:]), term)
    if term[0] == "at":
        return term
    return "make", term[1], tuple(plain_filled(part, answers) for part in term[2])


def plain_value(term, x, steps):
    """What term comes to for the thing x, calls being left as they are."""
    if term[0] == "make":
        return "make", term[1], tuple(plain_value(part, x, steps) for part in term[2])
    for step in term[-1]:
        x = steps[step][x]
    return ("thing", x) if term[0] == "at" else ("answer", term[1], x)


def terms_by_chance(seed, many):
    dice = chance(seed)
    return [term_by_chance(dice, 3, 3) for _ in range(many)]


class IsTermTest(unittest.TestCase):

    def test_terms(self):
        for term in terms_by_chance(1, 200) + [X, DEEP, ("at", (99,) * 70), ("call", 10 ** 9, ())]:
            self.assertIs(terms.is_term(term), True)
        self.assertIs(told(terms.is_term, X), True)

    def test_far_beyond_the_bounds(self):
        wide = ("make", 12, (X,) * 5000)
        self.assertIs(terms.is_term(wide), True)
        self.assertIs(terms.is_term(("make", 0, (X,) * 5000 + (None,))), False)
        self.assertIs(terms.is_term(("at", (0,) * 100000)), True)

    def test_what_is_nearly_one(self):
        kinds = (X, ("at", (0, 1)), ("call", 0, ()), ("call", 1, (0,)), ("make", 0, (X, ("call", 1, (0,)))))
        for term in kinds:
            for thing in variants(term):
                self.assertIs(terms.is_term(thing), False, thing)

    def test_too_short_or_too_long(self):
        for term in (X, ("call", 0, ()), ("make", 0, (X,))):
            for thing in (term[:-1], term + ((),), term[:1], (), ("make", 0, ()), ("make", (X,)), ("at", 0, ())):
                self.assertIs(terms.is_term(thing), False, thing)

    def test_other_things(self):
        for thing in odd_things():
            self.assertIs(terms.is_term(thing), False, repr(thing)[:80])
            self.assertIs(terms.is_term(thing=thing), False)

    def test_wrong_at_the_bottom(self):
        for bottom in (None, ("at", [0]), ["at", ()], ("make", 0, ()), ("at", (True,)), ("thing", 0)):
            self.assertIs(terms.is_term(nested(49, lambda value: ("make", 3, (value or bottom,)))), False)


class PartsTest(unittest.TestCase):

    def test_beside_the_plain_way(self):
        for term in terms_by_chance(2, 400):
            parts = plain_parts(term)
            self.assertEqual(told(terms.depth, term), plain_depth(term))
            self.assertEqual(told(terms.calls_in, term), plain_set(part[1:] for part in parts if part[0] == "call"))
            self.assertEqual(told(terms.words_in, term), plain_set(part[-1] for part in parts if part[0] != "make"))
            self.assertEqual(told(terms.makers_in, term), plain_set(part[1] for part in parts if part[0] == "make"))
            self.assertEqual(told(terms.parts_in_order, term), plain_unlike(term))

    def test_like_parts_that_stand_more_than_once(self):
        twig = ("make", 1, (("call", 0, ()), X))
        term = ("make", 0, (twig, X, twig, ("make", 2, (twig, ("call", 0, ())))))
        order = (("call", 0, ()), X, twig, ("make", 2, (twig, ("call", 0, ()))), term)
        self.assertEqual(told(terms.parts_in_order, term), order)

    def test_parts_that_differ_in_one_thing(self):
        term = ("make", 0, (("at", (0,)), ("call", 0, (0,)), ("call", 1, (0,)), ("make", 0, (("at", (0,)),)),
                            ("make", 1, (("at", (0,)),)), ("make", 0, (("at", (0,)), ("at", (0,))))))
        self.assertEqual(len(terms.parts_in_order(term)), 7)

    def test_far_beyond_the_bounds(self):
        deep = X
        for _ in range(300):
            deep = terms.filled(("make", 1, (("call", 0, ()), ("call", 0, ()))), (((0, ()), deep),))
            deep = ("make", 0, (deep[2][0],))
        self.assertEqual(terms.depth(deep), 300)
        self.assertEqual(len(terms.parts_in_order(deep)), 301)
        self.assertEqual(terms.words_in(terms.led(deep, (1,))), ((1,),))


class LedTest(unittest.TestCase):

    def test_led(self):
        dice = chance(3)
        for term in terms_by_chance(3, 200):
            word = word_by_chance(dice)
            self.assertEqual(told(terms.led, term, word), plain_led(term, word))
            self.assertEqual(terms.led(term, ()), term)

    def test_the_guarantee(self):
        dice = chance(4)
        steps = tuple(tuple(dice.randrange(7) for _ in range(7)) for _ in range(2))
        for term in terms_by_chance(4, 200):
            word = word_by_chance(dice)
            for x in range(7):
                there = x
                for step in word:
                    there = steps[step][there]
                self.assertEqual(plain_value(terms.led(term, word), x, steps), plain_value(term, there, steps))


class FilledTest(unittest.TestCase):

    def test_filled(self):
        dice = chance(5)
        for term in terms_by_chance(5, 300):
            calls = [(dice.randrange(3), word_by_chance(dice, 2)) for _ in range(4)]
            answers = tuple((dice.choice(calls), term_by_chance(dice, 3, 2)) for _ in range(dice.randint(0, 5)))
            self.assertEqual(told(terms.filled, term, answers), plain_filled(term, answers))

    def test_the_first_pair_counts(self):
        call = ("call", 1, (0,))
        answers = (((1, (0,)), ("at", (5,))), ((1, (0,)), ("at", (6,))), ((1, ()), X))
        self.assertEqual(told(terms.filled, ("make", 0, (call, call)), answers), ("make", 0, (("at", (5,)),) * 2))

    def test_what_is_put_in_stays_as_it_is(self):
        here, there = ("call", 0, ()), ("call", 1, ())
        answers = (((0, ()), ("make", 2, (here, there))), ((1, ()), here))
        self.assertEqual(
            told(terms.filled, ("make", 0, (here, there)), answers),
            ("make", 0, (("make", 2, (here, there)), here)))

    def test_others_stay(self):
        term = ("make", 0, (("call", 0, (1,)), ("at", (1,)), ("call", 2, ())))
        self.assertEqual(told(terms.filled, term, (((0, ()), X), ((2, (1,)), X))), term)
        self.assertEqual(told(terms.filled, ("call", 0, ()), ()), ("call", 0, ()))


if __name__ == "__main__":
    unittest.main()
