"""Point [2]: integers, words and tags."""

import unittest

from tests.values import OTHER_KINDS
from wirebox.errors import BadWord
from wirebox.words import is_integer, is_tag, is_word, need_word

WORDS = (
    "a", "z", "ab", "a1", "a_", "a0", "z9", "a__", "user", "abcdefghijkl", "a23456789_12", "zzzzzzzzzzzz",
)
NO_WORDS = (
    "abcdefghijklm", "a" * 13, "a" * 1000, "A", "Z", "aB", "userName", "_", "_a", "0", "1a", "9z", " ", " a", "a ",
    "a b", "a-b", "a.b", "a\n", "\n", "a\nb", "a[", "a]", "a,", "a#", "#a", "`", "{", "@", "[", "/", ":", "a/", "a:", "a`",
    "a{", "a@", "a^", "T", "a\u00e4", "\u00e4", "a\u00b2", "a\u0661",
)


class IntegersTest(unittest.TestCase):
    def test_integers(self):
        for value in (0, 1, -1, 2, 10 ** 900, -10 ** 900):
            self.assertIs(is_integer(value), True)

    def test_true_and_false_are_no_integers(self):
        self.assertIs(is_integer(True), False)
        self.assertIs(is_integer(False), False)

    def test_other_kinds_are_no_integers(self):
        for value in OTHER_KINDS + ("", "a", "1", "0"):
            if type(value) is not int:
                self.assertIs(is_integer(value), False)

    def test_by_name(self):
        self.assertIs(is_integer(value=3), True)


class WordsTest(unittest.TestCase):
    def test_words(self):
        for value in WORDS:
            self.assertIs(is_word(value), True, value)

    def test_each_small_letter_alone_is_a_word(self):
        for place in range(128):
            sign = chr(place)
            self.assertIs(is_word(sign), "a" <= sign <= "z", sign)

    def test_signs_behind_the_first_one(self):
        for place in range(128):
            sign = chr(place)
            right = "a" <= sign <= "z" or "0" <= sign <= "9" or sign == "_"
            self.assertIs(is_word("a" + sign), right, sign)
            self.assertIs(is_word("a" + sign + "a"), right, sign)

    def test_lengths(self):
        for length in range(20):
            self.assertIs(is_word("a" * length), 1 <= length <= 12, length)

    def test_other_strings(self):
        for value in NO_WORDS + ("",):
            self.assertIs(is_word(value), False, value)

    def test_other_kinds(self):
        for value in OTHER_KINDS:
            self.assertIs(is_word(value), False)
        self.assertIs(is_word(["a"]), False)
        self.assertIs(is_word(("a", "b")), False)

    def test_need_word_takes_words(self):
        for value in WORDS:
            self.assertIsNone(need_word(value))
        self.assertIsNone(need_word(value="a"))

    def test_need_word_raises_with_the_very_value(self):
        for value in OTHER_KINDS + NO_WORDS + ("",):
            with self.assertRaises(BadWord) as caught:
                need_word(value)
            self.assertTrue(caught.exception.given is value)


class TagsTest(unittest.TestCase):
    def test_tags(self):
        for value in WORDS + ("",):
            self.assertIs(is_tag(value), True, value)

    def test_other_strings(self):
        for value in NO_WORDS:
            self.assertIs(is_tag(value), False, value)

    def test_other_kinds(self):
        for value in OTHER_KINDS:
            self.assertIs(is_tag(value), False)

    def test_by_name(self):
        self.assertIs(is_word(value="a"), True)
        self.assertIs(is_tag(value=""), True)


if __name__ == "__main__":
    unittest.main()
