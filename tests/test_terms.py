"""Point [3]: terms and keys, their bounds, and their texts."""

import unittest

from tests.values import FOUR, LEAF, OTHER_KINDS, THIRTEEN, THREE, TWELVE, chain_of, nested, term
from wirebox.errors import BadKey, BadTerm, BadText
from wirebox.terms import (
    MOST_DEPTH, MOST_SIZE, depth_of, is_key, is_term, key_text, read_key, read_term, size_of, term_text,
)

# A term with its depth, size and text.
TERMS = (
    (("a", ()), 1, 1, "a"),
    (("abcdefghijkl", ()), 1, 1, "abcdefghijkl"),
    (("a_1", ()), 1, 1, "a_1"),
    (term("list", term("user")), 2, 2, "list[user]"),
    (term("map", term("text"), term("list", term("user"))), 3, 4, "map[text, list[user]]"),
    (term("map", term("list", term("user")), term("text")), 3, 4, "map[list[user], text]"),
    (term("f", term("x"), term("y"), term("z")), 2, 4, "f[x, y, z]"),
    (chain_of(4), 4, 4, "a[a[a[a]]]"),
    (TWELVE, 3, 12, "a[a[a, a, a], a[a, a, a], a[a, a]]"),
    (term("a", term("a", FOUR, FOUR, LEAF), LEAF), 4, 12, "a[a[a[a, a, a], a[a, a, a], a], a]"),
    (term("a", LEAF, LEAF, chain_of(3)), 4, 6, "a[a, a, a[a[a]]]"),
    (term("a", LEAF, chain_of(3), LEAF), 4, 6, "a[a, a[a[a]], a]"),
    (term("abcdefghijkl", term("abcdefghijkl"), term("bbbbbbbbbbbb")), 2, 3, "abcdefghijkl[abcdefghijkl, bbbbbbbbbbbb]"),
)
BEYOND = (
    chain_of(5), chain_of(50), THIRTEEN, term("a", LEAF, LEAF, LEAF, LEAF),
    term("a", term("a", LEAF, LEAF, LEAF, LEAF)), term("a", LEAF, LEAF, chain_of(4)), nested(4), nested(45),
    term("a", term("a", FOUR, FOUR, THREE)), term("a", *[LEAF] * 50),
    term("a", term("a", term("a", THREE))), term("a", term("a", term("a", FOUR))), term("a", term("a", term("a", LEAF, THREE))),
    term("a", LEAF, term("a", term("a", FOUR))),
)
WRONG = (
    "a", "T", "", ("T", ()), ("", ()), ("A", ()), ("1", ()), ("abcdefghijklm", ()), ("a b", ()), (None, ()), (1, ()),
    (("a", ()), ()), ["a", ()], ("a", []), ("a", None), ("a", ""), ("a", "b"), ("a", {}), ("a", [LEAF]), ("a", LEAF),
    ("a", ("b",)), ("a", ("T",)), ("a", (None,)), ("a", ([],)), ("a", (["a", ()],)), ("a", ((),)), ("a", (LEAF, "T")),
    ("a", (LEAF, None)), ("a", (LEAF, LEAF, ("a", []))), ("a", ("a", ())), ("a",), ("a", (), ()), ("a", (), ""), (),
    (LEAF, ""), (LEAF, LEAF), ("a", ((LEAF, ""),)), ("a", (("T", ()),)), (True, ()), (b"a", ()),
)


class TermsTest(unittest.TestCase):
    def test_bounds(self):
        self.assertEqual((MOST_DEPTH, MOST_SIZE), (4, 12))

    def test_terms(self):
        for value, depth, size, text in TERMS:
            with self.subTest(text=text):
                self.assertIs(is_term(value), True)
                self.assertEqual(depth_of(value), depth)
                self.assertEqual(size_of(value), size)
                self.assertEqual(term_text(value), text)

    def test_no_terms(self):
        for value in OTHER_KINDS + BEYOND + WRONG:
            self.assertIs(is_term(value), False)

    def test_no_terms_are_refused(self):
        for function in (depth_of, size_of, term_text):
            for value in OTHER_KINDS + BEYOND + WRONG:
                with self.assertRaises(BadTerm) as caught:
                    function(value)
                self.assertTrue(caught.exception.given is value)

    def test_by_name(self):
        self.assertIs(is_term(value=LEAF), True)
        self.assertEqual((depth_of(term=LEAF), size_of(term=LEAF), term_text(term=LEAF)), (1, 1, "a"))
        self.assertEqual(read_term(text="a"), LEAF)

    def test_same_words_with_other_numbers_of_parts(self):
        self.assertEqual(read_term("a[a, a[a]]"), term("a", LEAF, term("a", LEAF)))


class KeysTest(unittest.TestCase):
    def test_keys(self):
        for value, _, _, text in TERMS:
            for tag, behind in (("", ""), ("a", "#a"), ("main", "#main"), ("abcdefghijkl", "#abcdefghijkl"), ("a_1", "#a_1")):
                key = (value, tag)
                self.assertIs(is_key(key), True)
                self.assertEqual(key_text(key), text + behind)
                self.assertEqual(read_key(text + behind), key)

    def test_no_keys(self):
        wrong = [(LEAF, tag) for tag in ("A", "#", "#a", "1", "_", "abcdefghijklm", "a b", None, True, 0, (), LEAF, b"")]
        wrong += [(value, "") for value in OTHER_KINDS + BEYOND + WRONG]
        wrong += [LEAF, "a", "", (), (LEAF,), (LEAF, "", ""), [LEAF, ""], ("", LEAF), *OTHER_KINDS, *WRONG[:6]]
        for value in wrong:
            self.assertIs(is_key(value), False)
            with self.assertRaises(BadKey) as caught:
                key_text(value)
            self.assertTrue(caught.exception.given is value)

    def test_a_word_and_a_text_are_no_key(self):
        self.assertIs(is_key(("a", "")), False)
        self.assertIs(is_key((("T", ()), "")), False)
        self.assertIs(is_key(("T", "")), False)

    def test_by_name(self):
        self.assertIs(is_key(value=(LEAF, "")), True)
        self.assertEqual(key_text(key=(LEAF, "b")), "a#b")
        self.assertEqual(read_key(text="a#b"), (LEAF, "b"))


class ReadingTest(unittest.TestCase):
    def refuse(self, read, text, place):
        with self.assertRaises(BadText, msg=text) as caught:
            read(text)
        self.assertEqual(caught.exception.place, place, text)

    def test_whole_texts(self):
        for value, _, _, text in TERMS:
            self.assertEqual(read_term(text), value)
            self.assertEqual(read_key(text), (value, ""))

    def test_no_strings(self):
        for value in OTHER_KINDS + (LEAF, ["a"]):
            self.refuse(read_term, value, 0)
            self.refuse(read_key, value, 0)

    def test_cut_texts(self):
        for cut, place in (("", 1), ("a[", 3), ("a[b", 4), ("a[b,", 5), ("a[b, ", 6), ("a[b, c", 7), ("a[b[c]", 7)):
            self.refuse(read_term, cut, place)
            self.refuse(read_key, cut, place)
        self.refuse(read_key, "a#", 3)
        self.refuse(read_key, "a[b]#", 6)

    def test_texts_that_are_too_long(self):
        for text, place in (("a]", 2), ("a[b]]", 5), ("a[b]a", 5), ("a[b] ", 5), ("a[b][c]", 5), ("a,", 2), ("a, b", 2),
                            ("a ", 2), ("a\n", 2), ("a[b],", 5), ("a[b]\n", 5)):
            self.refuse(read_term, text, place)
            self.refuse(read_key, text, place)
        for text, place in (("a#", 2), ("a#b", 2), ("a[b]#c", 5)):
            self.refuse(read_term, text, place)
        for text, place in (("a#b#c", 4), ("a#b ", 4), ("a#b[c]", 4), ("a#b]", 4), ("a#b,", 4), ("a[b]#c#", 7)):
            self.refuse(read_key, text, place)

    def test_signs_put_in_left_out_or_exchanged(self):
        for text, place in (("A", 1), ("T", 1), ("1", 1), ("_", 1), ("[a]", 1), ("]", 1), (",", 1), ("#", 1), ("#a", 1),
                            ("aB", 2), ("a-b", 2), ("a.b", 2), ("a[]", 3), ("a[B]", 3), ("a[T]", 3), ("a[1]", 3),
                            ("a[b,]", 5), ("a[b, ]", 6), ("a[b, C]", 6), ("a[b, 1]", 6), ("a[,b]", 3), ("a[[b]]", 3),
                            ("a[b;c]", 4), ("a(b)", 2), ("a[b)", 4), ("a[b#c]", 4), ("a[b]a[c]", 5), ("a[b,, c]", 5),
                            ("a[b[]", 5), ("a[b]c", 5), ("repo[user,note]", 11)):
            self.refuse(read_term, text, place)
            self.refuse(read_key, text, place)
        for text, place in (("a##b", 3), ("a#B", 3), ("a#1", 3), ("a#_", 3), ("a#bC", 4), ("a#b-", 4), ("a#[", 3)):
            self.refuse(read_key, text, place)

    def test_blanks_more_or_fewer(self):
        for text, place in ((" a", 1), ("a ", 2), ("a [b]", 2), ("a[ b]", 3), ("a[b ]", 4), ("a[b,c]", 5),
                            ("a[b,  c]", 6), ("a[b , c]", 4), ("a[b, c ]", 7), ("a[b] ", 5), ("a[b,\nc]", 5), (" ", 1),
                            ("\na", 1)):
            self.refuse(read_term, text, place)
            self.refuse(read_key, text, place)
        for text, place in (("a #b", 2), ("a# b", 3), ("a#b ", 4)):
            self.refuse(read_key, text, place)

    def test_words_beyond_the_bound(self):
        self.refuse(read_term, "abcdefghijklm", 13)
        self.refuse(read_term, "a" * 100, 13)
        self.refuse(read_term, "a[abcdefghijklm]", 15)
        self.refuse(read_term, "abcdefghijkl1[a]", 13)
        self.refuse(read_key, "a#abcdefghijklm", 15)
        self.refuse(read_term, "abcdefghijklM", 13)

    def test_depth_beyond_the_bound(self):
        self.refuse(read_term, "a[a[a[a[a]]]]", 8)
        self.refuse(read_key, "a[a[a[a[a]]]]", 8)
        self.refuse(read_term, "a[a[a[a", 8)
        self.refuse(read_term, "a[a[a[a[", 8)
        self.refuse(read_term, "a[a[a[b, c[d]]]]", 11)

    def test_parts_beyond_the_bound(self):
        self.refuse(read_term, "a[a, a, a, a]", 10)
        self.refuse(read_key, "a[b, c, d,", 10)
        self.refuse(read_term, "a[b, c[a, a, a, a]", 15)

    def test_size_beyond_the_bound(self):
        self.refuse(read_term, "a[a[a, a, a], a[a, a, a], a[a, a, a]]", 33)
        self.refuse(read_key, "a[a[a, a, a], a[a, a, a], a[a, a,", 33)
        self.refuse(read_term, "a[a[a, a, a], a[a, a, a], a[a, a[a]]]", 33)
        self.refuse(read_term, "a[a[a[a, a, a], a[a, a, a], a], a, a]", 34)
        self.refuse(read_term, "a[a[a, a, a], a[a, a, a], a[a, a]", 34)


if __name__ == "__main__":
    unittest.main()
