"""Numbers, texts and words, which all points go by."""

import unittest

from passtexts.values import SIGNS, is_made_of, is_number, is_text, is_word, tupled, word_of


class Values(unittest.TestCase):
    def test_numbers(self):
        for number in (0, -1, 10 ** 40):
            self.assertTrue(is_number(number))
        for wrong in (True, False, 1.0, "1", None, [1]):
            self.assertFalse(is_number(wrong))

    def test_texts(self):
        for text in ("", "a", "z9", SIGNS, SIGNS * 3):
            self.assertTrue(is_text(text))
        for wrong in ("A", "a b", " ", "a\n", "\u00e9", "\u0661", "ab-cd", None, 1, ["a"], b"a"):
            self.assertFalse(is_text(wrong))
        self.assertTrue(is_made_of("abba", "ab"))
        self.assertFalse(is_made_of("abcba", "ab"))

    def test_words(self):
        for word in ("a", "z", "abcdefgh"):
            self.assertTrue(is_word(word))
        for wrong in ("", "abcdefghi", "a1", "A", "a b", None, 1, ("a",)):
            self.assertFalse(is_word(wrong))

    def test_words_by_number(self):
        words = [word_of(number) for number in range(1500)]
        self.assertEqual(words[:3] + words[25:29] + words[701:704], ["a", "b", "c", "z", "aa", "ab", "ac", "zz", "aaa",
                                                                     "aab"])
        self.assertEqual(len(set(words)), 1500)
        self.assertEqual(sorted(words, key=lambda word: (len(word), word)), words)
        self.assertTrue(all(is_word(word) for word in words))

    def test_tuples_for_lists(self):
        self.assertEqual(tupled([1, ("a", ["b", []]), "c"]), (1, ("a", ("b", ())), "c"))
