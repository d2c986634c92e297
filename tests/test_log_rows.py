"""Points [36] and [41]: the forms of the rows of logs."""

import unittest

from tests.histories import History
from tests.values import OTHER_KINDS, THIRTEEN, Hostile, chain_of, term
from wirebox.logs import is_log_row

KEY = (("job", (("a", ()),)), "x")
GOOD = {
    "count": (1, 2, 77, 10 ** 30), "word": ("a", "a_1", "abcdefghijkl"), "key": (KEY, (("a", ()), ""), (chain_of(4), "x")),
    "how": (True, False, None),
    "holds": (
        (), (1,), (None,), ((),), ((1, 2),), (("handle", 1),), (1, None, (), (3,), (4, 4), ("handle", 10 ** 30), 7),
    ),
}
BAD = {
    "count": (0, -1, True, False, 1.0, "1", None, (1,), [1], Hostile()),
    "word": ("", "abcdefghijklm", "A", "1a", "a-b", "made ", 1, None, True, ("a",), ["a"], b"a", Hostile()),
    "key": (
        "a", ("a", ()), (("a", ()), "X"), (("a", ()), "abcdefghijklm"), (chain_of(5), ""), (THIRTEEN, ""), ("T", ""), [("a", ()), ""],
        (("a", []), ""), (("a", ()), "", ""), (term("a", *[("a", ())] * 4), ""), None, Hostile(), (("a", ()), Hostile()),
    ),
    "how": (0, 1, "", "True", (), (None,), 1.0, Hostile()),
    "holds": (
        None, 1, [1], [], "a", (0,), (True,), (-1,), ("a",), ((0,),), ((1, True),), ((1, None),), (((1,),),), ([1],), ([],),
        ("handle", 1), (("handle", 0),), (("handle", True),), (("handle", None),), (("handle",),), (("handle", 1, 2),),
        (("hold", 1),), ((1, "handle"),), (["handle", 1],), (1.0,), ("",), (Hostile(),), ((Hostile(),),), (("handle", Hostile()),),
        ((Hostile(), 1),),
    ),
}
ROWS = {
    "entered": ("count", "count"), "asked": ("count", "key"), "used": ("count",), "gave": ("count",), "closed": ("count",),
    "made": ("count", "word", "key", "count", "holds"), "failed": ("word", "key", "count", "count"),
    "ended": ("count", "how"), "exchanged": (),
}


def first_row(word):
    return (word,) + tuple(GOOD[kind][0] for kind in ROWS[word])


class RowsTest(unittest.TestCase):
    def test_every_form(self):
        for word, kinds in ROWS.items():
            self.assertIs(is_log_row(first_row(word)), True)
            for at, kind in enumerate(kinds, 1):
                for value in GOOD[kind]:
                    row = first_row(word)[:at] + (value,) + first_row(word)[at + 1:]
                    self.assertIs(is_log_row(value=row), True, row)

    def test_one_element_otherwise(self):
        for word, kinds in ROWS.items():
            for at, kind in enumerate(kinds, 1):
                for value in BAD[kind]:
                    row = first_row(word)[:at] + (value,) + first_row(word)[at + 1:]
                    self.assertIs(is_log_row(row), False, (word, at))

    def test_other_words(self):
        for word in ROWS:
            rest = first_row(word)[1:]
            for value in ("", "enter", "ask", "made ", word.upper(), word + "s", word[:-1], 1, None, True, b"made", (word,), Hostile()):
                self.assertIs(is_log_row((value,) + rest), False)
            for other in ROWS:
                if ROWS[other] != ROWS[word]:
                    self.assertIs(is_log_row((other,) + rest), False, (word, other))

    def test_one_more_and_one_fewer(self):
        for word in ROWS:
            row = first_row(word)
            for more in (None, 1, "", (), row[-1]):
                self.assertIs(is_log_row(row + (more,)), False)
            self.assertIs(is_log_row(row[:-1]), False)
            self.assertIs(is_log_row(row[1:]), False)

    def test_other_kinds_of_rows(self):
        for word in ROWS:
            for value in (list(first_row(word)), word, set([word]), {word: 1}, (first_row(word),), [first_row(word)]):
                self.assertIs(is_log_row(value), False)
        for value in OTHER_KINDS:
            self.assertIs(is_log_row(value), False)

    def test_nothing_else_is_looked_at(self):
        for row in (("entered", 1, 7), ("entered", 3, 3), ("made", 5, "w", KEY, 9, (5, ("handle", 1), ("handle", 1), (8, 5)))):
            self.assertIs(is_log_row(row), True)

    def test_rows_of_boxes(self):
        words = set()
        for seed in range(30):
            for row in History(seed, failing=40).log:
                words.add(row[0])
                self.assertIs(is_log_row(row), True, row)
        self.assertEqual(words, set(ROWS))


if __name__ == "__main__":
    unittest.main()
