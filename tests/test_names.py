import unittest

from eachplace.names import free_names, is_name
from tests.helpers import Asking, odd_things

WORDS = (
    "end most less same unlike ahead here next not and or if each pairs nexts least more row place number put swap "
    "set stand begin go while kept changed exchanged turned moved front back"
).split(" ")


class NamesTest(Asking, unittest.TestCase):
    def test_one_letter_to_eight(self):
        for letter in "abcdefghijklmnopqrstuvwxyz":
            for many in range(1, 9):
                self.assert_yes(is_name, letter * many)
        for name in ("ab", "az", "za", "abcdefgh", "zyxwvuts"):
            self.assert_yes(is_name, name)

    def test_no_letter_and_nine_are_none(self):
        for text in ("", "a" * 9, "abcdefghi", "a" * 10, "a" * 4000):
            self.assert_no(is_name, text)

    def test_no_word_is_one(self):
        self.assertEqual(len(WORDS), 34)
        for word in WORDS:
            self.assert_no(is_name, word)

    def test_a_word_with_a_letter_less_or_more(self):
        for word in WORDS:
            for text in (word[:-1], word[1:], word + "q", "q" + word):
                fits = 1 <= len(text) <= 8 and text not in WORDS
                (self.assert_yes if fits else self.assert_no)(is_name, text)

    def test_words_of_rows_and_texts_that_are_names(self):
        for name in ("else", "first", "last", "cast", "at", "all", "over", "needs", "holds", "above", "ring", "line"):
            self.assert_yes(is_name, name)

    def test_each_sign_but_small_letters(self):
        for code in [10] + list(range(32, 127)):
            sign = chr(code)
            fits = "a" <= sign <= "z"
            for text in (sign, "a" + sign, sign + "a", "a" + sign + "a"):
                (self.assert_yes if fits else self.assert_no)(is_name, text)

    def test_letters_of_other_alphabets(self):
        for text in ("\u00e4", "\u00df", "\u03b1", "a\u0301", "\uff41"):
            self.assert_no(is_name, text)

    def test_of_anything(self):
        for thing in odd_things():
            self.assert_no(is_name, thing)
        for thing in (("a",), ["a"], {"a": "a"}, b"a", ("a", "b")):
            self.assert_no(is_name, thing)


class FreeNamesTest(unittest.TestCase):
    def test_none_is_taken_or_told_twice(self):
        for many in (0, 1, 2, 26, 27, 60, 800):
            found = free_names((), many)
            self.assertEqual(len(found), many)
            self.assertEqual(len(set(found)), many)
            self.assertTrue(all(is_name(name) for name in found))
            others = free_names(found, 40)
            self.assertEqual(set(found) & set(others), set())
            self.assertTrue(all(is_name(name) for name in others))

    def test_words_are_passed_over(self):
        found = free_names(("x", "b"), 720)
        self.assertNotIn("or", found)
        self.assertNotIn("if", found)
        self.assertNotIn("go", found)
        self.assertIn("on", found)


if __name__ == "__main__":
    unittest.main()
