"""Point [26]: papers."""

import itertools
import unittest

from tests import model
from tests.build import bind, box_of, layers_of, wrap
from tests.test_choosing import KEYS
from tests.values import OTHER_KINDS, Hostile
from tests.worlds import World
from wirebox.papers import is_paper, paper
from wirebox.terms import read_key

WORDS = ("tag", "unlike", "covered", "less", "equal", "chosen")


def told(container, text):
    return paper(container, read_key(text))


class PaperTest(unittest.TestCase):
    def test_each_word(self):
        container = layers_of(
            [bind("any", "T"), bind("x", "f[T]#x"), bind("e", "f[a]")],
            [bind("g", "g[T]"), wrap("w", "f[T]"), bind("list", "f[T]"), bind("users", "f[a]"), bind("y", "T#y")],
            [bind("other", "b")],
        )
        self.assertEqual(told(container, "f[a]"), (
            ("any", "covered", paper(container, read_key("f[a]"))[0][2]), ("x", "tag", None),
            ("e", "covered", told(container, "f[a]")[2][2]),
            ("g", "unlike", None), ("list", "less", "users"), ("users", "chosen", None), ("y", "tag", None),
            ("other", "unlike", None),
        ))
        self.assertIn(told(container, "f[a]")[0][2], ("list", "users"))
        self.assertEqual(told(container, "f[b]"), (
            ("any", "covered", "list"), ("x", "tag", None), ("e", "unlike", None), ("g", "unlike", None), ("list", "chosen", None),
            ("users", "unlike", None), ("y", "tag", None), ("other", "unlike", None),
        ))
        self.assertEqual(told(container, "c#y"), (
            ("any", "tag", None), ("x", "tag", None), ("e", "tag", None), ("g", "tag", None), ("list", "tag", None),
            ("users", "tag", None), ("y", "chosen", None), ("other", "tag", None),
        ))

    def test_the_tag_comes_ahead_of_the_pattern(self):
        self.assertEqual(told(box_of(bind("one", "f[T]#x")), "a"), (("one", "tag", None),))
        self.assertEqual(told(box_of(bind("one", "f[T]#x")), "a#x"), (("one", "unlike", None),))

    def test_covered_comes_ahead_of_less(self):
        container = layers_of([bind("one", "T"), bind("two", "a")], [bind("three", "S")])
        self.assertEqual(told(container, "a"), (("one", "covered", "three"), ("two", "covered", "three"),
            ("three", "chosen", None)))
        self.assertEqual(told(container, "b"), (("one", "covered", "three"), ("two", "unlike", None), ("three", "chosen", None)))

    def test_ambiguous_keys(self):
        container = layers_of([bind("old", "T")], [
            bind("left", "p[T, user]"), bind("all", "p[S, T]"), bind("right", "p[user, T]"),
        ])
        found = told(container, "p[user, user]")
        self.assertIn(found[0][2], ("left", "all", "right"))
        self.assertEqual(found[0][:2], ("old", "covered"))
        self.assertEqual((found[1], found[3]), (("left", "equal", None), ("right", "equal", None)))
        self.assertEqual(found[2][:2], ("all", "less"))
        self.assertIn(found[2][2], ("left", "right"))
        self.assertEqual(told(container, "p[user, a]")[1:], (("left", "unlike", None), ("all", "less", "right"),
            ("right", "chosen", None)))

    def test_rows_of_parents_only_while_no_binding_is_for_the_key(self):
        first = layers_of([bind("a"), bind("any", "T")], [bind("x", "T#x")])
        second = layers_of([wrap("w", "a"), bind("b")], [bind("c")], parent=first)
        third = layers_of([bind("d")], parent=second)
        self.assertEqual(told(third, "d"), (("d", "chosen", None),))
        self.assertEqual(told(third, "c"), (("d", "unlike", None), ("b", "unlike", None), ("c", "chosen", None)))
        self.assertEqual(told(third, "a"), (
            ("d", "unlike", None), ("b", "unlike", None), ("c", "unlike", None), ("a", "chosen", None), ("any", "less", "a"),
            ("x", "tag", None),
        ))
        self.assertEqual(told(third, "a#y"), tuple((name, "tag", None) for name in ("d", "b", "c", "a", "any", "x")))
        self.assertEqual(told(second, "b"), (("b", "chosen", None), ("c", "unlike", None)))
        self.assertEqual(told(first, "b"), (("a", "unlike", None), ("any", "chosen", None), ("x", "tag", None)))

    def test_a_later_layer_of_a_child_does_not_cover(self):
        first = layers_of([bind("a")])
        second = layers_of([bind("b")], parent=first)
        self.assertEqual(told(second, "a"), (("b", "unlike", None), ("a", "chosen", None)))

    def test_nothing_to_tell(self):
        self.assertEqual(told(layers_of(), "a"), ())
        self.assertEqual(told(layers_of([wrap("w", "a")], parent=layers_of([])), "a"), ())
        self.assertEqual(paper(key=read_key("a"), container=layers_of()), ())

    def test_small_containers_against_the_definitions(self):
        for seed in range(60):
            container = World(seed, opened=70, wants=0).container()
            for key in KEYS[::2] if seed % 2 else KEYS[1::2]:
                rows = model.papers(container, key)
                found = paper(container, key)
                self.assertIsInstance(found, tuple)
                self.assertEqual(len(found), len(rows))
                for row, allowed in zip(found, rows):
                    self.assertIn(row, allowed)
                self.assertIs(is_paper(container, key, found), True)


class IsPaperTest(unittest.TestCase):
    def is_so(self, container, text, value):
        return is_paper(container, read_key(text), value)

    def test_all_rows_in_all_places(self):
        for seed in range(0, 40):
            container = World(seed, opened=80, wants=0).container()
            for key in KEYS[seed % 7::7]:
                rows = model.papers(container, key)
                right = paper(container, key)
                others = [None] + [row[0] for row in right]
                for at, allowed in enumerate(rows):
                    for word, other in itertools.product(WORDS, others):
                        row = (right[at][0], word, other)
                        self.assertIs(is_paper(container, key, right[:at] + (row,) + right[at + 1:]), row in allowed)

    def test_all_papers_where_other_may_name_several(self):
        container = layers_of(
            [bind("a1", "T")], [bind("b1", "p[S, T]"), bind("b2", "p[T, a]"), bind("b3", "p[a, T]")], [bind("d", "T#x")],
        )
        key = "p[a, a]"
        for one, other in itertools.product(("b1", "b2", "b3", "a1", "d", None, "x"), ("b1", "b2", "b3", "a1", None)):
            value = (("a1", "covered", one), ("b1", "less", other), ("b2", "equal", None), ("b3", "equal", None),
                ("d", "tag", None))
            self.assertIs(self.is_so(container, key, value), one in ("b1", "b2", "b3") and other in ("b2", "b3"))

    def test_other_values(self):
        container = layers_of([bind("one", "T"), bind("two", "a")])
        right = (("one", "less", "two"), ("two", "chosen", None))
        self.assertIs(self.is_so(container, "a", right), True)
        wrong = (
            right[:1], right[1:], right + right[1:], right[::-1], (right[0], right[0]), (right[1], right[1]), list(right), [], (),
            right[0],
            (list(right[0]), right[1]), (right[0], list(right[1])), (right[0], right[1][:2]), (right[0], right[1] + (None,)),
            (right[0], ("two", "chosen", "")), (right[0], ("two", "chosen", "one")), (right[0], ("two", "chosen", False)),
            (("one", "less", None), right[1]), (("one", "less", "one"), right[1]), (("one", "less", ("two",)), right[1]),
            (("one", "covered", "two"), right[1]), (("two", "less", "two"), right[1]), (right[0], ("x", "chosen", None)),
            ((None, "less", "two"), right[1]), (("one", None, "two"), right[1]),
            (("one", "less", Hostile()), right[1]), ((Hostile(), "less", "two"), right[1]), (("one", Hostile(), "two"), right[1]),
            (right[0], ("two", "chosen", Hostile())), (Hostile(), right[1]), (right[0], None), "ab", {"one": 1, "two": 2}, b"ab",
            (("one", "less", b"two"), right[1]), ((b"one", "less", "two"), right[1]),
        )
        for value in OTHER_KINDS + wrong:
            self.assertIs(self.is_so(container, "a", value), False)
        for value in OTHER_KINDS + right:
            if not isinstance(value, tuple) or len(value) > 0:
                self.assertIs(self.is_so(layers_of(), "a", value), False)
        self.assertIs(is_paper(value=(), key=read_key("a"), container=layers_of()), True)


if __name__ == "__main__":
    unittest.main()
