"""unwound.words [4]."""

import itertools
import unittest

from tests.support import chance, odd_things, told, variants, word_by_chance
from unwound import words
from unwound.errors import CanNot, NoPlace, Unfit


def all_words(most, steps=2):
    """All WORDS of at most so many of the STEPS below steps."""
    return [word for many in range(most + 1) for word in itertools.product(range(steps), repeat=many)]


SHORT = all_words(5)
PRIMITIVE = [
    word for word in all_words(8)
    if word and not any(len(word) % size == 0 and word[:size] * (len(word) // size) == word
                        for size in range(1, len(word)))]


def powers_of(word, most):
    """All powers of word, not (), of at most so many STEPS."""
    return {word * many for many in range(most // len(word) + 1)}


POWERS = {root: powers_of(root, 16) for root in PRIMITIVE}


def plain_roots(group):
    """The primitive WORDS of which all of group are powers."""
    return [root for root in PRIMITIVE if all(word in POWERS[root] for word in group)]


def rows_that_make(pair, word):
    """All rows of pair, no word of it (), that make word."""
    if not word:
        return [()]
    rows = []
    for place, own in enumerate(pair):
        if word[:len(own)] == own:
            rows.extend((place,) + row for row in rows_that_make(pair, word[len(own):]))
    return rows


class IsWordTest(unittest.TestCase):

    def test_words(self):
        for word in SHORT + [(9,) * 60, (10 ** 30, 11, 10), (0,) * 100000]:
            self.assertIs(told(words.is_word, word) if len(word) < 100 else words.is_word(word), True)

    def test_what_is_nearly_one(self):
        for word in ((), (0,), (0, 1, 0), (12, 11)):
            for thing in variants(word):
                self.assertIs(words.is_word(thing), False, thing)

    def test_other_things(self):
        for thing in odd_things():
            expected = thing in ((0, 1, 2), ()) and not isinstance(thing, list)
            self.assertIs(words.is_word(thing), expected, repr(thing)[:80])
            self.assertIs(words.is_word(thing=thing), expected)


class PowersTest(unittest.TestCase):

    def test_word_power(self):
        for word in SHORT:
            for many in range(5):
                self.assertEqual(told(words.word_power, word, many), tuple(list(word) * many))
        self.assertEqual(words.word_power((0, 1), 60), (0, 1) * 60)

    def test_root_of(self):
        for word in all_words(8):
            if word:
                root, times = told(words.root_of, word)
                self.assertEqual(root * times, word)
                self.assertEqual([root], plain_roots([word]))

    def test_root_of_long_words(self):
        self.assertEqual(words.root_of((0,) * 60), ((0,), 60))
        self.assertEqual(words.root_of((0, 1, 1) * 20), ((0, 1, 1), 20))
        self.assertEqual(words.root_of((0,) * 59 + (1,)), ((0,) * 59 + (1,), 1))
        self.assertEqual(words.root_of((0, 1) * 1800), ((0, 1), 1800))
        self.assertEqual(words.root_of((0, 0, 1) * 900 + (0,)), ((0, 0, 1) * 900 + (0,), 1))

    def test_root_of_nothing(self):
        self.assertRaises(Unfit, told, words.root_of, ())

    def test_commute(self):
        for word, other in itertools.product(SHORT, SHORT):
            both = words.commute(word, other)
            self.assertIs(both, word + other == other + word)
            # The guarantee: exactly if both are powers of one WORD; not () ones, of one primitive WORD.
            self.assertIs(both, bool(plain_roots([word, other])))
            if both and word and other:
                self.assertEqual(len(plain_roots([word, other])), 1)
        for word, other in (((0, 1), (0, 1, 0, 1)), ((), ()), ((0,), (1,)), ((2, 2), (2,))):
            told(words.commute, word, other)

    def test_common_root(self):
        for group in itertools.product(all_words(4), repeat=2):
            self.check_common_root(group)
        dice = chance(4)
        for _ in range(400):
            root = word_by_chance(dice, 3)
            group = [root * dice.randint(0, 3) for _ in range(dice.randint(0, 4))]
            if dice.random() < 0.3:
                group.append(word_by_chance(dice, 3))
            self.check_common_root(tuple(group))

    def check_common_root(self, group):
        if not any(group):
            self.assertEqual(told(words.common_root, group), ())
            return
        roots = plain_roots(group)
        self.assertLess(len(roots), 2)
        if roots:
            self.assertEqual(told(words.common_root, group), roots[0])
        else:
            self.assertRaises(CanNot, told, words.common_root, group)

    def test_common_root_of_none(self):
        self.assertEqual(told(words.common_root, ()), ())


class PiecesTest(unittest.TestCase):

    def test_turned(self):
        for word in SHORT:
            slow = word
            for many in range(13):
                self.assertEqual(told(words.turned, word, many), slow)
                slow = slow[1:] + slow[:1]

    def test_turned_far(self):
        for many in (10 ** 12, 10 ** 12 - 1, 999999999989):
            self.assertEqual(told(words.turned, (0, 1, 2, 3, 4), many), words.turned((0, 1, 2, 3, 4), many % 5))
            self.assertEqual(words.turned((), many), ())
        self.assertEqual(words.turned((0, 1, 2), 10 ** 12), (1, 2, 0))

    def test_piece_of(self):
        for row in SHORT[1:]:
            for start, many in itertools.product((0, 1, 2, 7, 60), (0, 1, 3, 12)):
                slow = tuple((row * 100)[start + place] for place in range(many))
                self.assertEqual(told(words.piece_of, row, start, many), slow)

    def test_piece_of_far(self):
        row = (0, 1, 2, 3, 4, 5, 6)
        for start in (10 ** 12, 10 ** 12 - 3, 999999000001):
            slow = tuple(row[(start + place) % 7] for place in range(60))
            self.assertEqual(told(words.piece_of, row, start, 60), slow)
            self.assertIs(told(words.is_piece, row, start, slow), True)
            self.assertIs(told(words.is_piece, row, start + 1, slow), False)
        self.assertEqual(words.piece_of((5,) * 60, 10 ** 12, 60), (5,) * 60)

    def test_is_piece(self):
        for row, word in itertools.product(SHORT[1:20], SHORT):
            for start in range(4):
                slow = all(step == (row * 9)[start + place] for place, step in enumerate(word))
                self.assertIs(words.is_piece(row, start, word), slow)
        self.assertIs(told(words.is_piece, (0, 1), 3, (1, 0)), True)
        self.assertIs(told(words.is_piece, (0, 1), 3, ()), True)

    def test_pieces_of_no_row(self):
        self.assertRaises(Unfit, told, words.piece_of, (), 0, 0)
        self.assertRaises(Unfit, told, words.piece_of, (), 5, 3)
        self.assertRaises(Unfit, told, words.is_piece, (), 0, ())
        self.assertRaises(Unfit, told, words.is_piece, (), 0, (1,))

    def test_first_apart(self):
        for word, other in itertools.product(SHORT, SHORT):
            apart = [place for place in range(min(len(word), len(other))) if word[place] != other[place]]
            self.assertEqual(words.first_apart(word, other), apart[0] if apart else None)
        self.assertEqual(told(words.first_apart, (0, 1, 1), (0, 1, 0, 2)), 2)
        self.assertIsNone(told(words.first_apart, (), (0,)))


class RowsTest(unittest.TestCase):

    def test_row_word(self):
        dice = chance(5)
        for _ in range(200):
            group = tuple(word_by_chance(dice, 4) for _ in range(dice.randint(1, 4)))
            row = tuple(dice.randrange(len(group)) for _ in range(dice.randint(0, 30)))
            slow = ()
            for place in row:
                slow = slow + group[place]
            self.assertEqual(told(words.row_word, group, row), slow)

    def test_row_word_without_a_place(self):
        group = ((0,), (1, 1))
        for row, place in (((0, 2, 3), 2), ((1, 5, 2), 5), ((0, -1, 7), -1), ((7, -1), 7)):
            with self.assertRaises(NoPlace) as caught:
                told(words.row_word, group, row)
            self.assertEqual(caught.exception.place, place)
        with self.assertRaises(NoPlace) as caught:
            told(words.row_word, (), (0,))
        self.assertEqual(caught.exception.place, 0)
        self.assertEqual(told(words.row_word, (), ()), ())

    def test_row_told(self):
        pairs = [pair for pair in itertools.product(all_words(3), repeat=2)]
        for pair in pairs:
            for word in all_words(5):
                self.check_row_told(pair, word)

    def check_row_told(self, pair, word):
        if pair[0] + pair[1] == pair[1] + pair[0]:
            self.assertRaises(Unfit, words.row_told, pair, word)
            return
        rows = rows_that_make(pair, word)
        # The guarantee: two rows make one WORD only if they are the same.
        self.assertLess(len(rows), 2)
        if rows:
            self.assertEqual(words.row_told(pair, word), rows[0])
        else:
            self.assertRaises(CanNot, words.row_told, pair, word)

    def test_row_told_in_all_ways(self):
        self.assertEqual(told(words.row_told, ((0,), (0, 1)), (0, 0, 1, 0)), (0, 1, 0))
        self.assertEqual(told(words.row_told, ((0,), (0, 1)), ()), ())
        self.assertRaises(CanNot, told, words.row_told, ((0,), (0, 1)), (1,))

    def test_row_told_there_and_back(self):
        dice = chance(6)
        for _ in range(300):
            pair = (word_by_chance(dice, 5), word_by_chance(dice, 5))
            if words.commute(*pair):
                continue
            row = tuple(dice.randrange(2) for _ in range(30))
            self.assertEqual(words.row_told(pair, words.row_word(pair, row)), row)

    def test_row_told_checks_the_pair_first(self):
        for pair in (((0,), (0, 0)), ((), (1,)), ((), ()), ((0, 1), (0, 1))):
            for word in ((), (0,), (1, 1, 1)):
                self.assertRaises(Unfit, told, words.row_told, pair, word)

    def test_row_told_where_the_near_choice_leads_nowhere(self):
        pair = ((0,) * 29 + (1,), (0,))
        self.assertEqual(words.row_told(pair, (0,) * 59 + (1,)), (1,) * 30 + (0,))
        self.assertEqual(words.row_told(pair, (0,) * 60), (1,) * 60)


if __name__ == "__main__":
    unittest.main()
