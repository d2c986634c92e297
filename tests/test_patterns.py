"""Points [4] and [5]: patterns, variables, substitutions, matching, and what is more special."""

import copy
import unittest

from tests.oracle import exchanged, matches, passes_bounds, shape_variables, universe
from tests.values import FOUR, LEAF, OTHER_KINDS, THIRTEEN, TWELVE, chain_of, nested, term
from wirebox.errors import BadPattern, BadTerm, BadText
from wirebox.patterns import (
    are_alike, is_as_special, is_pattern, match, pattern_text, put_in, read_pattern, variables_of,
)
from wirebox.terms import is_term, read_term

# A pattern with its text and its variables.
PATTERNS = (
    ("T", "T", ("T",)),
    ("A", "A", ("A",)),
    ("Z", "Z", ("Z",)),
    (LEAF, "a", ()),
    (TWELVE, "a[a[a, a, a], a[a, a, a], a[a, a]]", ()),
    (term("pair", "T", "T"), "pair[T, T]", ("T",)),
    (term("pair", "T", "A"), "pair[T, A]", ("T", "A")),
    (term("f", "B", term("g", "A", "B", "C"), "A"), "f[B, g[A, B, C], A]", ("B", "A", "C")),
    (term("f", term("g", "Z"), "Y", term("h", "X", "Z")), "f[g[Z], Y, h[X, Z]]", ("Z", "Y", "X")),
    (term("a", term("a", term("a", "T"))), "a[a[a[T]]]", ("T",)),
    (term("a", term("b", "A", "B", "C"), term("b", "D", "E", "F"), term("b", "G", "H")),
     "a[b[A, B, C], b[D, E, F], b[G, H]]", ("A", "B", "C", "D", "E", "F", "G", "H")),
)
BEYOND = (
    term("a", term("a", term("a", term("a", "T")))), term("a", FOUR, FOUR, term("a", "T", LEAF, "T")),
    term("a", "A", "B", "C", "D"), THIRTEEN, chain_of(5), nested(45), term("a", term("a", term("a", term("a", "S", "T")))),
)
WRONG = (
    "", "a", "t", "AB", "TT", "T ", " T", "1", "_", "[", "@", "\u00c4", "\n", ("T", ()), ("a", ("t",)), ("a", ("",)), ("a", ("TT",)),
    ("a", "T"), ("a", ["T"]), ["a", ("T",)], ["T"], ("T",), ("a", ("T", None)), ("a", (LEAF, ("T", ()))), (LEAF, ""), b"T",
    {"T": LEAF}, ("a", (("b", "T"),)), (("T",), ()),
)
NO_PATTERNS = OTHER_KINDS + BEYOND + WRONG
WORDS = (("a", 0), ("b", 0), ("f", 1), ("p", 2))


class Case(unittest.TestCase):
    def refuse(self, error, given, function, *told):
        with self.assertRaises(error) as caught:
            function(*told)
        self.assertTrue(caught.exception.given is given)


class PatternsTest(Case):
    def test_patterns(self):
        for value, text, variables in PATTERNS:
            self.assertIs(is_pattern(value), True, text)
            self.assertEqual(pattern_text(value), text)
            self.assertEqual(read_pattern(text), value)
            self.assertEqual(variables_of(value), variables)
            self.assertIs(is_term(value), not variables)

    def test_each_capital_letter_is_a_variable(self):
        for place in range(128):
            self.assertIs(is_pattern(chr(place)), "A" <= chr(place) <= "Z")
            self.assertIs(is_pattern(("a", (chr(place),))), "A" <= chr(place) <= "Z")

    def test_no_patterns(self):
        for value in NO_PATTERNS:
            self.assertIs(is_pattern(value), False)
            self.refuse(BadPattern, value, pattern_text, value)
            self.refuse(BadPattern, value, variables_of, value)

    def test_by_name(self):
        self.assertIs(is_pattern(value="T"), True)
        self.assertEqual((pattern_text(pattern="T"), read_pattern(text="T"), variables_of(pattern="T")), ("T", "T", ("T",)))

    def test_texts_that_are_none(self):
        for text, place in (("", 1), ("TT", 2), ("Ta", 2), ("T[", 2), ("T[a]", 2), ("T#a", 2), ("T,", 2), ("T ", 2), (" T", 1),
                            ("aT", 2), ("a[T", 4), ("a[TT]", 4), ("a[Ta]", 4), ("a[T[b]]", 4), ("a[T,b]", 5), ("a[T,B]", 5),
                            ("a[T,  B]", 6), ("a[T ]", 4), ("a[T]T", 5), ("a#b", 2), ("a[T]#b", 5), ("a[1]", 3), ("T1", 2),
                            ("a[a[a[T]", 9), ("a[a[a[T[", 8), ("a[a[a[a[T]]]]", 8), ("a[A, B, C, D]", 10),
                            ("a[b[A, B, C], b[D, E, F], b[G, H, I]]", 33), ("a[T, ]", 6), ("_", 1), ("[T]", 1)):
            with self.assertRaises(BadText, msg=text) as caught:
                read_pattern(text)
            self.assertEqual(caught.exception.place, place, text)

    def test_no_strings(self):
        for value in OTHER_KINDS + (LEAF, ("T",), ["T"]):
            with self.assertRaises(BadText) as caught:
                read_pattern(value)
            self.assertEqual(caught.exception.place, 0)


class MatchTest(Case):
    def told(self, pattern, text):
        found = match(read_pattern(pattern), read_term(text))
        return None if found is None else {name: pattern_text(value) for name, value in found.items()}

    def test_matching(self):
        for pattern, text, found in (
            ("T", "a", {"T": "a"}), ("T", "a[b, c[d]]", {"T": "a[b, c[d]]"}), ("a", "a", {}), ("a", "b", None),
            ("a", "a[a]", None), ("a[T]", "a", None), ("a[T]", "a[b, b]", None), ("a[S, T]", "a[b]", None),
            ("a[T]", "b[a]", None), ("a[T]", "a[a[c]]", {"T": "a[c]"}), ("pair[T, T]", "pair[a, a]", {"T": "a"}),
            ("pair[T, T]", "pair[a, b]", None), ("pair[T, T]", "pair[a, a[a]]", None), ("pair[S, T]", "pair[a, a]", {"S": "a", "T": "a"}),
            ("f[T, g[T, S], S]", "f[a[b], g[a[b], c], c]", {"T": "a[b]", "S": "c"}),
            ("f[T, g[T, S], S]", "f[a[b], g[a[c], c], c]", None), ("f[T, g[T, S], S]", "f[a[b], g[a[b], c], a[b]]", None),
            ("a[b, T]", "a[c, d]", None), ("a[T, b]", "a[c, b]", {"T": "c"}), ("a[T, b]", "a[b, c]", None),
        ):
            self.assertEqual(self.told(pattern, text), found, (pattern, text))

    def test_all_small_ones_against_trying_all_values(self):
        terms = universe(WORDS, (), 3)
        for pattern in universe((("a", 0), ("f", 1), ("p", 2)), ("S", "T"), 2):
            for value in terms:
                found = match(pattern, value)
                self.assertIs(found is not None, matches(pattern, value))
                if found is not None:
                    self.assertEqual(set(found), shape_variables(pattern))
                    self.assertEqual(exchanged(pattern, found), value)

    def test_each_returned_dict_is_new(self):
        first = match("T", LEAF)
        first["T"] = first["S"] = "changed"
        self.assertEqual(match("T", LEAF), {"T": LEAF})

    def test_wrong_values(self):
        for value in NO_PATTERNS:
            self.refuse(BadPattern, value, match, value, LEAF)
            self.refuse(BadPattern, value, match, value, "T")
            self.refuse(BadTerm, value, match, "T", value)
        for value in ("T", term("a", "T")):
            self.refuse(BadTerm, value, match, LEAF, value)

    def test_by_name(self):
        self.assertEqual(match(term=LEAF, pattern="T"), {"T": LEAF})


class PutInTest(Case):
    def told(self, pattern, **values):
        result = put_in(read_pattern(pattern), {name: read_pattern(text) for name, text in values.items()})
        return pattern_text(result)

    def test_putting_in(self):
        self.assertEqual(self.told("T", T="a"), "a")
        self.assertEqual(self.told("T", T="list[S]"), "list[S]")
        self.assertEqual(self.told("pair[T, T]", T="list[a]"), "pair[list[a], list[a]]")
        self.assertEqual(self.told("f[T, g[S, T], S]", S="a", T="b"), "f[b, g[a, b], a]")
        self.assertEqual(self.told("f[T, g[S, T], S]", S="a"), "f[T, g[a, T], a]")
        self.assertEqual(self.told("a[b]", T="c"), "a[b]")
        self.assertEqual(self.told("T"), "T")

    def test_values_are_not_put_into_again(self):
        self.assertEqual(self.told("pair[S, T]", S="T", T="S"), "pair[T, S]")
        self.assertEqual(self.told("pair[S, T]", S="f[T]", T="a"), "pair[f[T], a]")
        self.assertEqual(self.told("pair[S, T]", T="f[S]", S="a"), "pair[a, f[S]]")
        self.assertEqual(self.told("f[T]", T="f[T]"), "f[f[T]]")

    def test_other_variables_are_left_aside(self):
        self.assertEqual(self.told("f[T]", S="a", U="a[a[a[a]]]"), "f[T]")

    def test_all_small_ones(self):
        values = universe(WORDS, ("S", "T"), 1)
        for pattern in universe(WORDS, ("S", "T"), 2)[::7]:
            for one in values[::3]:
                for table in ({"S": one}, {"T": one, "S": "T"}, {"U": one}):
                    result = exchanged(pattern, table)
                    if passes_bounds(result):
                        self.refuse(BadPattern, None, put_in, pattern, table)
                    else:
                        self.assertEqual(put_in(pattern, table), result)

    def test_results_at_the_bounds(self):
        self.assertEqual(self.told("a[a[T]]", T="b[S]"), "a[a[b[S]]]")
        self.refuse(BadPattern, None, put_in, read_pattern("a[a[T]]"), {"T": chain_of(3)})
        self.refuse(BadPattern, None, put_in, read_pattern("a[a[T]]"), {"T": read_pattern("b[b[S]]")})
        self.assertEqual(self.told("f[S, S, T]", S="a[b, b, b]", T="a[b, c]"), "f[a[b, b, b], a[b, b, b], a[b, c]]")
        self.refuse(BadPattern, None, put_in, read_pattern("f[S, S, S]"), {"S": FOUR})
        self.refuse(BadPattern, None, put_in, read_pattern("f[S, T, T]"), {"T": TWELVE})
        self.refuse(BadPattern, None, put_in, read_pattern("f[T]"), {"T": TWELVE})
        self.assertEqual(put_in("T", {"T": TWELVE}), TWELVE)

    def test_wrong_patterns_come_first(self):
        for value in NO_PATTERNS:
            self.refuse(BadPattern, value, put_in, value, {})
            self.refuse(BadPattern, value, put_in, value, None)

    def test_wrong_substitutions_come_second(self):
        wrong = [value for value in OTHER_KINDS + WRONG + BEYOND if not isinstance(value, dict)]
        wrong += [{1: LEAF}, {None: LEAF}, {"": LEAF}, {"t": LEAF}, {"AB": LEAF}, {LEAF: LEAF}, {("T",): LEAF}, {b"T": LEAF}]
        wrong += [{"S": LEAF, 1: LEAF}, {"S": LEAF, "T": None}, {"T": THIRTEEN, "S": LEAF}, [("T", LEAF)], (("T", LEAF),)]
        wrong += [{"T": value} for value in NO_PATTERNS] + [{"S": value} for value in NO_PATTERNS]
        for value in wrong:
            self.refuse(BadPattern, value, put_in, "T", value)
        for value in ({"T": TWELVE, "S": "a"}, {"T": TWELVE, "t": LEAF}):
            self.refuse(BadPattern, value, put_in, read_pattern("f[T]"), value)

    def test_nothing_that_is_passed_is_changed(self):
        table = {"T": read_pattern("f[S]"), "S": LEAF, "U": "T"}
        before = copy.deepcopy(table)
        put_in(read_pattern("p[T, S]"), table)
        self.assertEqual(list(table.items()), list(before.items()))
        with self.assertRaises(BadPattern):
            put_in(read_pattern("f[f[f[T]]]"), table)
        self.assertEqual(list(table.items()), list(before.items()))

    def test_by_name(self):
        self.assertEqual(put_in(substitution={"T": LEAF}, pattern="T"), LEAF)


class SpecialTest(Case):
    def special(self, one, other):
        return is_as_special(read_pattern(one), read_pattern(other))

    def test_at_least_as_special(self):
        for one, other, right, turned in (
            ("a", "T", True, False), ("T", "S", True, True), ("T", "T", True, True), ("a", "a", True, True), ("a", "b", False, False),
            ("pair[T, T]", "pair[A, B]", True, False), ("pair[T, T]", "pair[T, S]", True, False), ("pair[S, T]", "pair[T, S]", True, True),
            ("pair[T, T]", "pair[a, T]", False, False), ("pair[a, a]", "pair[T, T]", True, False), ("pair[a, a]", "pair[a, T]", True, False),
            ("list[list[T]]", "list[T]", True, False), ("list[T]", "T", True, False), ("a[T]", "a[T, T]", False, False),
            ("a", "a[T]", False, False), ("f[S, g[T], S]", "f[T, S, T]", True, False), ("f[S, g[T], T]", "f[T, S, T]", False, False),
            ("pair[list[A], list[B]]", "pair[T, T]", False, False), ("pair[list[A], list[A]]", "pair[T, T]", True, False),
            ("pair[A, B]", "pair[B, B]", False, True), ("pair[T, list[T]]", "pair[T, T]", False, False),
        ):
            self.assertIs(self.special(one, other), right, (one, other))
            self.assertIs(self.special(other, one), turned, (other, one))
            self.assertIs(are_alike(read_pattern(one), read_pattern(other)), right and turned, (one, other))

    def test_all_small_ones_against_words_of_their_own(self):
        patterns = universe((("a", 0), ("f", 1), ("p", 2)), ("S", "T"), 2)
        for one in patterns:
            own = exchanged(one, {"S": ("own_s", ()), "T": ("own_t", ())})
            for other in patterns:
                self.assertIs(is_as_special(one, other), matches(other, own), (one, other))

    def test_what_one_matches_is_matched_by_the_other(self):
        terms = universe((("a", 0), ("f", 1), ("p", 2)), (), 3)
        patterns = universe((("a", 0), ("f", 1), ("p", 2)), ("S", "T"), 2)
        matched = {one: {at for at, value in enumerate(terms) if match(one, value) is not None} for one in patterns}
        for one in patterns:
            for other in patterns:
                if is_as_special(one, other):
                    self.assertTrue(matched[one] <= matched[other], (one, other))

    def test_alike_patterns_differ_in_names_alone(self):
        for value, text, variables in PATTERNS:
            renamed = exchanged(value, {name: letter for name, letter in zip(variables, "QRSTUVWXYZ")})
            self.assertIs(are_alike(value, renamed), True, text)
            if len(variables) > 1:
                merged = exchanged(value, {name: variables[0] for name in variables})
                self.assertIs(are_alike(value, merged), False, text)
                self.assertIs(are_alike(merged, value), False, text)
                self.assertIs(is_as_special(merged, value), True, text)

    def test_wrong_values(self):
        for function in (is_as_special, are_alike):
            for value in NO_PATTERNS:
                self.refuse(BadPattern, value, function, value, "T")
                self.refuse(BadPattern, value, function, "T", value)
                self.refuse(BadPattern, value, function, LEAF, value)
                self.refuse(BadPattern, value, function, value, [])

    def test_by_name(self):
        self.assertIs(is_as_special(other="T", one=LEAF), True)
        self.assertIs(are_alike(other="T", one=LEAF), False)


if __name__ == "__main__":
    unittest.main()
