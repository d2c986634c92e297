"""Point [6]: the meet of two patterns."""

import unittest

from tests.oracle import universe
from tests.test_patterns import NO_PATTERNS
from tests.values import LEAF, TWELVE
from wirebox.errors import BadPattern
from wirebox.patterns import (
    are_alike, is_as_special, is_pattern, match, meet, pattern_text, read_pattern, variables_of,
)
from wirebox.terms import is_term

WORDS = (("a", 0), ("f", 1), ("p", 2))


class MeetTest(unittest.TestCase):
    def told(self, one, other):
        met = meet(read_pattern(one), read_pattern(other))
        return None if met is None else pattern_text(met)

    def both(self, one, other, right, turned=None):
        self.assertEqual(self.told(one, other), right, (one, other))
        self.assertEqual(self.told(other, one), turned or right, (other, one))

    def test_meets(self):
        self.both("a", "a", "a")
        self.both("T", "a", "a")
        self.both("T", "S", "A")
        self.both("pair[T, T]", "pair[user, S]", "pair[user, user]")
        self.both("pair[T, T]", "pair[A, B]", "pair[A, A]")
        self.both("pair[list[S], T]", "pair[R, map[R, R]]", "pair[list[A], map[list[A], list[A]]]")
        self.both("f[S, g[S], T]", "f[g[A], B, B]", "f[g[A], g[g[A]], g[g[A]]]")

    def test_variables_of_both_are_unlike(self):
        self.both("T", "T", "A")
        self.both("T", "f[T]", "f[A]")
        self.both("pair[T, a]", "pair[b, T]", "pair[b, a]")
        self.both("pair[T, list[T]]", "pair[list[T], T]", None)
        self.both("pair[S, T]", "pair[T, S]", "pair[A, B]")
        self.both("pair[T, S]", "pair[list[S], list[T]]", "pair[list[A], list[B]]")
        self.both("pair[A, N]", "pair[N, A]", "pair[A, B]")
        self.both("f[A, M, N]", "f[g[N], g[M], g[A]]", "f[g[A], g[B], g[C]]")

    def test_names_by_first_places(self):
        self.both("pair[Z, Y]", "T", "pair[A, B]")
        self.both("f[C, g[B, C], A]", "T", "f[A, g[B, A], C]")
        self.both("f[a, g[B], A]", "f[T, S, R]", "f[a, g[A], B]")
        self.both("f[S, T, T]", "f[X, Y, g[Z]]", "f[A, g[B], g[B]]")
        self.both("a[b[H, G, F], b[E, D, C], b[B, A]]", "T", "a[b[A, B, C], b[D, E, F], b[G, H]]")

    def test_no_term_is_matched_by_both(self):
        self.both("a", "b", None)
        self.both("a", "a[T]", None)
        self.both("a[T]", "a[T, S]", None)
        self.both("a[T]", "b[T]", None)
        self.both("pair[T, T]", "pair[a, b]", None)
        self.both("pair[T, T]", "pair[list[a], list[b]]", None)
        self.both("f[S, T, S]", "f[a, X, b]", None)
        self.both("f[S, S, T]", "f[T, a, b]", "f[a, a, b]")
        self.both("f[S, S, T]", "f[T, a, T]", "f[a, a, a]")
        self.both("f[S, S, a]", "f[T, b, T]", None)

    def test_a_variable_would_stand_in_itself(self):
        self.both("pair[T, T]", "pair[S, list[S]]", None)
        self.both("pair[T, list[T]]", "pair[S, S]", None)
        self.both("pair[S, T]", "pair[list[A], list[A]]", "pair[list[A], list[A]]")
        self.both("f[S, T, S]", "f[T, g[T], g[g[T]]]", None)
        self.both("f[S, T, T]", "f[g[X], g[Y], Z]", "f[g[A], g[B], g[B]]")
        self.both("f[S, T, a]", "f[g[X], X, X]", "f[g[a], a, a]")
        self.both("f[S, S, T]", "f[g[X], Y, p[X, Y]]", "f[g[A], g[A], p[A, g[A]]]")
        self.both("f[S, S, S]", "f[g[X], Y, p[X, Y]]", None)

    def test_bounds_of_size(self):
        self.both("f[T, T, a[b, b]]", "f[a[b, b, b], S, R]", "f[a[b, b, b], a[b, b, b], a[b, b]]")
        self.both("f[T, T, T]", "f[a[b, b, b], S, R]", None)
        self.both("f[T, T, a[b, X]]", "f[a[A, B, C], S, R]", "f[a[A, B, C], a[A, B, C], a[b, D]]")
        self.both("f[T, T, T]", "f[a[A, B, C], S, R]", None)
        self.both("f[T, g[T, S, S], S]", "f[g[a, b], R, g[g[A, B], g[A, B]]]", None)

    def test_bounds_of_depth(self):
        self.both("p[T, f[T]]", "p[f[S], R]", "p[f[A], f[f[A]]]")
        self.both("p[T, f[T]]", "p[f[f[S]], R]", None)
        self.both("p[T, f[T]]", "p[f[f[a]], R]", None)
        self.both("p[f[f[T]], T]", "p[S, f[R]]", None)
        self.both("p[f[f[T]], T]", "p[S, a]", "p[f[f[a]], a]")

    def test_largest_ones(self):
        self.assertEqual(meet(TWELVE, "T"), TWELVE)
        self.assertEqual(meet(TWELVE, TWELVE), TWELVE)
        self.both("a[b[A, B, C], b[D, E, F], b[G, H]]", "a[b[A, B, C], b[D, E, F], b[G, H]]", "a[b[A, B, C], b[D, E, F], b[G, H]]")
        self.both("a[b[A, B, C], b[D, E, F], b[G, H]]", "a[b[H, A, B], b[A, C, D], b[B, A]]", "a[b[A, B, C], b[B, D, E], b[C, B]]")
        self.both("a[b[A, B, C], b[A, B, C], b[A, B]]", "a[b[D, E, F], b[E, F, D], b[F, D]]", "a[b[A, A, A], b[A, A, A], b[A, A]]")

    def test_wrong_values(self):
        for value in NO_PATTERNS:
            for one, other in ((value, "T"), ("T", value), (LEAF, value), (value, [])):
                with self.assertRaises(BadPattern) as caught:
                    meet(one, other)
                self.assertTrue(caught.exception.given is value)

    def test_by_name(self):
        self.assertEqual(meet(other="T", one=LEAF), LEAF)
        self.assertEqual(meet(one=("p", ("B", "A")), other=("p", (LEAF, "T"))), ("p", (LEAF, "A")))

    def test_all_small_ones(self):
        patterns = universe(WORDS, ("S", "T"), 2)
        terms = [value for value in universe(WORDS, (), 4) if is_term(value)]
        matched = {}

        def matched_by(pattern):
            if pattern not in matched:
                matched[pattern] = {at for at, value in enumerate(terms) if match(pattern, value) is not None}
            return matched[pattern]

        for one in patterns:
            for other in patterns:
                met = meet(one, other)
                common = matched_by(one) & matched_by(other)
                if met is None:
                    self.assertEqual(common, set(), (one, other))
                    continue
                self.assertTrue(is_pattern(met))
                self.assertEqual(common, matched_by(met), (one, other))
                self.assertTrue(is_as_special(met, one) and is_as_special(met, other), (one, other))
                self.assertEqual("".join(variables_of(met)), "ABCDEFGH"[:len(variables_of(met))])
                self.assertTrue(are_alike(met, meet(other, one)), (one, other))

    def test_it_is_the_most_general_one(self):
        patterns = universe(WORDS, ("S", "T"), 2)
        special = {(one, other): is_as_special(one, other) for one in patterns for other in patterns}
        for one in patterns[::2]:
            for other in patterns[::3]:
                met = meet(one, other)
                for third in patterns:
                    if special[third, one] and special[third, other]:
                        self.assertIsNotNone(met, (one, other))
                        self.assertTrue(is_as_special(third, met), (one, other, third))


if __name__ == "__main__":
    unittest.main()
