"""Points 5 and 7: words, their bows, and the word of a list of bows."""

import itertools
import unittest

from samples import LONG_WORDS, SIXTY_FIGURES, THINGS, disorders, joinings, words_of_length
from ringmaze.brackets import is_word, pairs, word_of
from ringmaze.errors import NoWord

SHORT_WORDS = [word for length in range(0, 13, 2) for word in words_of_length(length)]


def closes(word):
    """Whether a text of brackets comes to nothing when `()` is taken out over and over."""
    while "()" in word:
        word = word.replace("()", "")
    return word == ""


def crosses(bows):
    return any(a < c < b < d for a, b in bows for c, d in bows)


class WordsOfBracketsTest(unittest.TestCase):
    def check_no_word(self, thing):
        with self.subTest(thing=thing):
            self.assertIs(is_word(thing), False)
            self.assertRaises(NoWord, pairs, thing)

    def test_the_empty_word(self):
        self.assertIs(is_word(""), True)
        self.assertEqual(pairs(""), [])

    def test_ordinary_words(self):
        self.assertEqual(pairs("()"), [(0, 1)])
        self.assertEqual(pairs("()()"), [(0, 1), (2, 3)])
        self.assertEqual(pairs("(())"), [(0, 3), (1, 2)])
        self.assertEqual(pairs("(()())"), [(0, 5), (1, 2), (3, 4)])
        self.assertEqual(pairs("((()))()"), [(0, 5), (1, 4), (2, 3), (6, 7)])

    def test_words_of_forty_signs(self):
        self.assertEqual(pairs("(" * 20 + ")" * 20), [(a, 39 - a) for a in range(20)])
        self.assertEqual(pairs("()" * 20), [(2 * k, 2 * k + 1) for k in range(20)])
        self.assertEqual(pairs("(" + "()" * 19 + ")"), [(0, 39)] + [(2 * k + 1, 2 * k + 2) for k in range(19)])

    def test_texts_of_more_than_forty_signs(self):
        for half in (21, 22, 30, 1500):
            self.check_no_word("()" * half)
            self.check_no_word("(" * half + ")" * half)
        self.check_no_word("()" * 20 + "(")
        self.check_no_word("()" * 20 + ")")

    def test_each_short_text(self):
        for length in range(9):
            for signs in itertools.product("()[", repeat=length):
                text = "".join(signs)
                self.assertIs(is_word(text), closes(text), text)
                if not closes(text):
                    self.assertRaises(NoWord, pairs, text)

    def test_bows_of_words(self):
        for word in SHORT_WORDS + LONG_WORDS:
            self.assertIs(is_word(word), True, word)
            bows = pairs(word)
            self.assertIs(type(bows), list)
            self.assertTrue(all(type(bow) is tuple for bow in bows), word)
            self.assertEqual([a for a, b in bows], [place for place, sign in enumerate(word) if sign == "("])
            self.assertEqual(sorted(b for a, b in bows), [place for place, sign in enumerate(word) if sign == ")"])
            for a, b in bows:
                self.assertTrue(closes(word[a + 1:b]), (word, a, b))

    def test_one_sign_put_in(self):
        for word in SHORT_WORDS[:60] + LONG_WORDS:
            for place in range(len(word) + 1):
                for sign in ["(", ")", " ", "x", "\n"]:
                    self.check_no_word(word[:place] + sign + word[place:])

    def test_one_sign_taken_out_or_changed(self):
        other = {"(": ")", ")": "("}
        for word in SHORT_WORDS[:60] + LONG_WORDS:
            for place, sign in enumerate(word):
                self.check_no_word(word[:place] + word[place + 1:])
                for wrong in [other[sign], " ", "[", "*", "'", "|", "0", "\n"]:
                    self.check_no_word(word[:place] + wrong + word[place + 1:])

    def test_neighbours_changed_for_one_another(self):
        for word in SHORT_WORDS + LONG_WORDS:
            for place in range(len(word) - 1):
                text = word[:place] + word[place + 1] + word[place] + word[place + 2:]
                self.assertIs(is_word(text), closes(text), text)

    def test_what_is_no_text(self):
        told = []
        for thing in THINGS + [["(", ")"], ("(", ")"), [], (), None, 0, True, [""], ("",), ["()"]]:
            if is_word(thing):
                told.append(thing)
            else:
                self.check_no_word(thing)
        self.assertEqual(told, ["", "()"])

    def test_a_list_told_is_a_new_one(self):
        for word in ["", "()", "(())()"] + LONG_WORDS[:3]:
            first = pairs(word)
            kept = list(first)
            second = pairs(word)
            self.assertIsNot(first, second)
            first.append((0, 1))
            first.reverse()
            self.assertEqual(second, kept)
            self.assertEqual(pairs(word), kept)


class WordOfBowsTest(unittest.TestCase):
    def check_refused(self, thing):
        with self.subTest(thing=thing):
            self.assertRaises(NoWord, word_of, thing)

    def test_no_bows(self):
        self.assertEqual(word_of([]), "")

    def test_ordinary_bows(self):
        self.assertEqual(word_of([(0, 1)]), "()")
        self.assertEqual(word_of([(0, 3), (1, 2)]), "(())")
        self.assertEqual(word_of([(2, 3), (0, 1)]), "()()")
        self.assertEqual(word_of([(4, 5), (1, 2), (0, 3)]), "(())()")

    def test_the_word_of_the_bows_of_a_word(self):
        for word in SHORT_WORDS + LONG_WORDS:
            for bows in disorders(pairs(word)):
                self.assertEqual(word_of(bows), word)

    def test_every_order_of_few_bows(self):
        for word in words_of_length(8):
            for bows in itertools.permutations(pairs(word)):
                self.assertEqual(word_of(list(bows)), word)

    def test_each_joining_of_few_ends(self):
        for k in range(6):
            told = []
            for bows in joinings(list(range(2 * k))):
                if crosses(bows):
                    self.check_refused(bows)
                else:
                    told.append(word_of(bows))
                    self.assertEqual(pairs(told[-1]), sorted(bows))
            self.assertEqual(sorted(told), sorted(words_of_length(2 * k)))

    def test_bows_that_cross_within_a_long_word(self):
        for word in LONG_WORDS:
            bows = pairs(word)
            for k in range(len(bows) - 1):
                (a, b), (c, d) = bows[k], bows[k + 1]
                ends = sorted([a, b, c, d])
                crossed = [(ends[0], ends[2]), (ends[1], ends[3])]
                self.check_refused(bows[:k] + crossed + bows[k + 2:])

    def test_a_bow_left_out_or_twice(self):
        for word in ["(())()", "()()()"] + LONG_WORDS[:6]:
            bows = pairs(word)
            for k in range(len(bows)):
                left = bows[:k] + bows[k + 1:]
                # Without the last two ends what is left is a word of its own.
                if bows[k] != (len(word) - 2, len(word) - 1):
                    self.check_refused(left)
                self.check_refused(bows + [bows[k]])
                self.check_refused(left + [bows[k - 1]])

    def test_one_end_wrong(self):
        for word in ["()", "(())()"] + LONG_WORDS[:6]:
            bows = pairs(word)
            for k, (a, b) in enumerate(bows):
                wrongs = [(-1, b), (a - len(word), b), (-SIXTY_FIGURES, b), (a, SIXTY_FIGURES), (a, a), (b, b), (b, a),
                          (str(a), b), (a, str(b)), (None, b), (a, None), (a, [b]), ((a,), b), (a, ""),
                          [a, b], (a,), (b,), (), [], (a, b, b), (a, b, b + 1), (a, b, None), ((a, b),), [(a, b)],
                          a, b, None, True, "()", ""]
                wrongs += [(a, end) for end in range(len(word) + 3) if end != b]
                wrongs += [(end, b) for end in range(len(word) + 3) if end != a]
                for wrong in wrongs:
                    self.check_refused(bows[:k] + [wrong] + bows[k + 1:])

    def test_a_truth_is_no_end(self):
        for thing in [[(0, True)], [(False, 1)], [(False, True)], [(0, 3), (True, 2)], [(False, 3), (1, 2)]]:
            self.check_refused(thing)

    def test_ends_that_begin_or_end_elsewhere(self):
        for thing in [[(1, 2)], [(0, 2)], [(-1, 0)], [(2, 3), (4, 5)], [(0, 1), (3, 4)], [(-2, -1), (0, 1)]]:
            self.check_refused(thing)

    def test_no_list_at_all(self):
        told = []
        for thing in THINGS + [(), ((0, 1),), ((0, 3), (1, 2)), "", "()", 0, 1, True, False, None, (0, 1)]:
            if thing in ([], [(0, 1)]):
                told.append(word_of(thing))
            else:
                self.check_refused(thing)
        self.assertEqual(told, ["", "()"])

    def test_twenty_bows_and_more(self):
        self.assertEqual(word_of([(a, 39 - a) for a in range(20)]), "(" * 20 + ")" * 20)
        self.assertEqual(word_of([(2 * k, 2 * k + 1) for k in range(20)]), "()" * 20)
        for many in (21, 22, 40):
            self.check_refused([(2 * k, 2 * k + 1) for k in range(many)])
            self.check_refused([(a, 2 * many - 1 - a) for a in range(many)])

    def test_the_list_handed_in_stays_as_it_was(self):
        for thing in [[(4, 5), (1, 2), (0, 3)], [(1, 3), (0, 2)], [(2, 1), (0, 3)], [[1, 0]], [(2, 3), "x"]]:
            kept = [list(part) if isinstance(part, list) else part for part in thing]
            try:
                word_of(thing)
            except NoWord:
                pass
            self.assertEqual(thing, kept)

    def test_what_is_done_to_the_list_later_changes_no_answer(self):
        bows = [(0, 1), (2, 3)]
        self.assertEqual(word_of(bows), "()()")
        bows.append((4, 5))
        self.assertEqual(word_of(bows), "()()()")
        bows.pop()
        self.assertEqual(word_of(bows), "()()")


if __name__ == "__main__":
    unittest.main()
