"""Points [3] and [4]: places of wrong signs, compared with an other way to find them."""

import random
import unittest

from tests.oracle import bad_place
from wirebox.errors import BadText
from wirebox.patterns import pattern_text, read_pattern
from wirebox.terms import key_text, read_key, read_term, term_text

SIGNS = "abz09_AT[], #\n.-`{@"
KINDS = ((read_term, term_text, False, False), (read_key, key_text, False, True), (read_pattern, pattern_text, True, False))
BASES = (
    "a", "T", "a#b", "list[user]", "pair[T, T]", "map[text, list[user]]#main", "a[a[a[a]]]", "abcdefghijkl[b_1]#abcdefghijkl",
    "a[a[a, a, a], a[a, a, a], a[a, a]]", "a[a[a, a, a], a[a, a, a], a[a, a, a]]", "a[a[a[a[a]]]]", "f[A, g[B, c], h[A]]",
    "a[A[a], a]", "f[a, b, c]", "f[a, b, c, d]", "a[a[a, B, a], a[a, a, a], a[C, T]]#tag", "f[a, g[h[i, j], k], l]",
    "f[a[b[c], b[c], b[c]], d[e, e, e], g]", "f[a[b[c], b[c], b[c]], d[e, e], g]#x",
)


class PlacesTest(unittest.TestCase):
    def compare(self, text):
        for read, write, variables, tagged in KINDS:
            place = bad_place(text, variables, tagged)
            try:
                told = None
                self.assertEqual(write(read(text)), text)
            except BadText as error:
                told = error.place
            self.assertEqual(told, place, (read.__name__, text))

    def test_every_cut(self):
        for base in BASES:
            for length in range(len(base) + 1):
                self.compare(base[:length])

    def test_every_sign_left_out(self):
        for base in BASES:
            for at in range(len(base)):
                self.compare(base[:at] + base[at + 1:])

    def test_every_sign_put_in_or_exchanged(self):
        for base in BASES:
            for at in range(len(base) + 1):
                for sign in SIGNS:
                    self.compare(base[:at] + sign + base[at:])
                    self.compare(base[:at] + sign + base[at + 1:])

    def test_all_short_texts(self):
        texts = [""]
        for _ in range(5):
            texts = [text + sign for text in texts for sign in "aT[], #"]
            for text in texts[::3]:
                self.compare(text)

    def test_many_changes_at_once(self):
        lots = random.Random(7)
        for _ in range(2000):
            text = lots.choice(BASES)
            for _ in range(lots.randrange(1, 5)):
                at, end = lots.randrange(len(text) + 1), lots.randrange(len(text) + 1)
                text = text[:at] + lots.choice(("", lots.choice(SIGNS), ", a", "[a]", "a")) + text[max(at, end - 3):]
            self.compare(text[:80])


if __name__ == "__main__":
    unittest.main()
