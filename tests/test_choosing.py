"""Points [23] to [25]: choosing, gathering and wrapping."""

import unittest

from tests import model
from tests.build import bind, box_of, field_of, layers_of, names, wrap
from tests.oracle import universe
from tests.values import OTHER_KINDS
from tests.worlds import World
from wirebox.choosing import choose, gather, wrapping
from wirebox.containers import Container
from wirebox.errors import Ambiguous, BadContainer, BadKey
from wirebox.papers import is_paper, paper
from wirebox.terms import read_key

TERMS = universe((("a", 0), ("b", 0), ("f", 1)), (), 2) + [
    ("p", (one, other)) for one in universe((("a", 0), ("b", 0)), (), 1) for other in universe((("a", 0), ("b", 0), ("f", 1)), (),
        2)
]
KEYS = [(term, tag) for term in TERMS for tag in ("", "x")]


class ChooseTest(unittest.TestCase):
    def chosen(self, container, text):
        found = choose(container, read_key(text))
        return None if found is None else found.name

    def test_the_more_special_one(self):
        container = box_of(bind("any", "T"), bind("list", "list[T]"), bind("users", "list[user]"), bind("other", "list[user]#x"))
        for text, name in (
            ("a", "any"), ("list[a]", "list"), ("list[user]", "users"), ("list[list[user]]", "list"), ("list[user]#x", "other"),
            ("a#x", None), ("list[a]#x", None), ("a#y", None),
        ):
            self.assertEqual(self.chosen(container, text), name, text)

    def test_the_very_binding_is_told(self):
        part = bind("users", "list[user]")
        self.assertTrue(choose(box_of(bind("list", "list[T]"), part), read_key("list[user]")) is part)
        self.assertTrue(choose(key=read_key("list[user]"), container=box_of(part)) is part)

    def test_a_later_general_one_covers_an_earlier_special_one(self):
        special, general = bind("users", "list[user]"), bind("list", "list[T]")
        self.assertEqual(self.chosen(layers_of([special], [general]), "list[user]"), "list")
        self.assertEqual(self.chosen(layers_of([general], [special]), "list[user]"), "users")
        self.assertEqual(self.chosen(layers_of([special], [general], []), "list[user]"), "list")
        self.assertEqual(self.chosen(layers_of([general], [special], [bind("b", "b")]), "list[a]"), "list")
        self.assertEqual(self.chosen(layers_of([general], parent=layers_of([special])), "list[user]"), "list")

    def test_parents_choose_where_the_container_has_nothing(self):
        first = layers_of([bind("users", "list[user]"), bind("db")], [bind("list", "list[T]")])
        second = layers_of([], [bind("fake", "db")], [], parent=first)
        third = layers_of(parent=second)
        for container, text, name in (
            (first, "db", "db"), (second, "db", "fake"), (third, "db", "fake"), (third, "list[user]", "list"), (third, "a", None),
            (second, "list[b]", "list"), (second, "db#x", None),
        ):
            self.assertEqual(self.chosen(container, text), name)

    def test_bindings_of_other_tags(self):
        container = layers_of([bind("db"), bind("main", "db#main")], [bind("other", "T#other")])
        for text, name in (("db", "db"), ("db#main", "main"), ("db#other", "other"), ("db#o", None), ("a", None)):
            self.assertEqual(self.chosen(container, text), name)

    def test_wrappers_are_not_chosen(self):
        self.assertIsNone(self.chosen(box_of(wrap("w", "a")), "a"))
        self.assertEqual(self.chosen(layers_of([bind("a", "T")], [wrap("w", "a")]), "a"), "a")

    def test_empty_containers(self):
        for container in (layers_of(), layers_of([]), layers_of([], [], parent=layers_of([]))):
            self.assertIsNone(self.chosen(container, "a"))

    def test_ambiguous_keys(self):
        left, right, both = bind("left", "pair[T, user]"), bind("right", "pair[user, S]"), bind("both", "pair[T, T]")
        any_one = bind("any", "T")
        key = read_key("pair[user, user]")
        for parts, told in (
            ((right, left), ("left", "right")), ((any_one, right, both, left), ("both", "left", "right")),
            ((both, right), ("both", "right")),
        ):
            self.assertEqual(field_of(self, Ambiguous, choose, box_of(*parts), key), told)
            self.assertEqual(field_of(self, Ambiguous, choose, layers_of([bind("exact", "pair[user, user]")], parts), key), told)
            self.assertEqual(field_of(self, Ambiguous, choose, layers_of(parent=box_of(*parts)), key), told)
            self.assertEqual(self.chosen(box_of(*parts, bind("exact", "pair[user, user]")), "pair[user, user]"), "exact")
            self.assertEqual(self.chosen(layers_of(parts, [any_one] if any_one not in parts else [bind("z", "T")]),
                "pair[user, user]"),
                             "any" if any_one not in parts else "z")
        container = box_of(any_one, right, both, left)
        for text, name in (("pair[a, user]", "left"), ("pair[user, a]", "right"), ("pair[a, a]", "both"), ("pair[a, b]", "any")):
            self.assertEqual(self.chosen(container, text), name)

    def test_patterns_that_are_not_comparable_without_being_ambiguous(self):
        container = box_of(bind("one", "pair[T, T]"), bind("two", "pair[a, T]"), bind("three", "pair[a, a]"),
            bind("four", "pair[S, T]"))
        for text, name in (("pair[b, b]", "one"), ("pair[a, b]", "two"), ("pair[a, a]", "three"), ("pair[b, a]", "four")):
            self.assertEqual(self.chosen(container, text), name)


class GatherTest(unittest.TestCase):
    def gathered(self, container, text):
        found = gather(container, read_key(text))
        self.assertIsInstance(found, tuple)
        return names(found)

    def test_the_order(self):
        first = layers_of([bind("c", "f[T]"), bind("b", "T")], [bind("a", "f[a]"), bind("z", "f[b]")])
        second = layers_of([bind("e", "f[a]"), bind("d", "p[T, S]")], parent=first)
        self.assertEqual(self.gathered(first, "f[a]"), "c b a")
        self.assertEqual(self.gathered(second, "f[a]"), "c b e")
        self.assertEqual(self.gathered(second, "f[b]"), "c b z")
        self.assertEqual(self.gathered(second, "p[a, a]"), "b d")
        self.assertEqual(self.gathered(second, "a#x"), "")
        self.assertEqual(self.gathered(layers_of(), "a"), "")
        self.assertEqual(gather(key=read_key("a"), container=layers_of()), ())

    def test_what_is_replaced(self):
        for one, other in (("f[T]", "f[S]"), ("f[a]", "f[a]"), ("f[T]#x", "f[R]#x")):
            key = "f[a]#x" if "#" in one else "f[a]"
            parts = bind("one", one), bind("two", other), bind("three", one)
            self.assertEqual(self.gathered(layers_of(parts[:1], parts[1:2]), key), "two")
            self.assertEqual(self.gathered(layers_of(parts[:1], [], parts[1:2], parts[2:]), key), "three")
            self.assertEqual(self.gathered(layers_of(parts[1:2], parent=layers_of(parts[:1])), key), "two")
            chain = layers_of(parts[2:], parent=layers_of([], parent=layers_of(parts[:1], parts[1:2])))
            self.assertEqual(self.gathered(chain, key), "three")
            self.assertEqual(self.gathered(chain.parent, key), "two")

    def test_what_is_not_replaced(self):
        for one, other, key in (
            ("f[T]", "f[a]", "f[a]"), ("f[a]", "f[T]", "f[a]"), ("T", "f[T]", "f[a]"), ("p[S, T]", "p[T, T]", "p[a, a]"),
            ("p[a, T]", "p[T, a]", "p[a, a]"),
        ):
            self.assertEqual(self.gathered(layers_of([bind("one", one)], [bind("two", other)]), key), "one two")
            self.assertEqual(self.gathered(layers_of([bind("two", other)], parent=layers_of([bind("one", one)])), key), "one two")
            self.assertEqual(self.gathered(box_of(bind("one", one), bind("two", other)), key), "one two")

    def test_other_tags_do_not_replace(self):
        container = layers_of([bind("one", "f[T]")], [bind("two", "f[S]#x")])
        self.assertEqual(self.gathered(container, "f[a]"), "one")
        self.assertEqual(self.gathered(container, "f[a]#x"), "two")
        container = layers_of([bind("one", "f[T]")], [bind("two", "f[S]#x")], [bind("three", "f[S]")])
        self.assertEqual(self.gathered(container, "f[a]"), "three")

    def test_wrappers_neither_replace_nor_are_gathered(self):
        self.assertEqual(self.gathered(layers_of([bind("one", "f[T]")], [wrap("w", "f[T]")]), "f[a]"), "one")

    def test_keys_that_are_ambiguous(self):
        container = box_of(bind("right", "pair[user, S]"), bind("left", "pair[T, user]"))
        self.assertEqual(self.gathered(container, "pair[user, user]"), "right left")


class WrappingTest(unittest.TestCase):
    def wrapped(self, container, text):
        found = wrapping(container, read_key(text))
        self.assertIsInstance(found, tuple)
        return names(found)

    def test_wrappers_of_the_whole_chain_in_order(self):
        first = layers_of([wrap("d", "f[T]"), bind("b", "T"), wrap("c", "f[a]")], [wrap("a", "T")])
        second = layers_of([wrap("z", "f[T]")], [wrap("y", "f[T]"), wrap("x", "f[T]#x")], parent=first)
        for container, text, told in (
            (first, "f[a]", "d c a"), (first, "f[b]", "d a"), (first, "b", "a"), (second, "f[a]", "d c a z y"),
            (second, "f[b]", "d a z y"),
            (second, "f[b]#x", "x"), (first, "f[b]#x", ""), (second, "a#y", ""), (layers_of(), "a", ""),
        ):
            self.assertEqual(self.wrapped(container, text), told, text)
        self.assertEqual(wrapping(key=read_key("a"), container=layers_of()), ())

    def test_alike_ones_wrap_both(self):
        container = layers_of([wrap("a", "T"), wrap("b", "S")], [wrap("c", "T")])
        self.assertEqual(self.wrapped(container, "a"), "a b c")


class AllTest(unittest.TestCase):
    def test_small_containers_against_the_definitions(self):
        for seed in range(60):
            container = World(seed, opened=70, wants=0).container()
            for key in KEYS:
                told = model.chosen_names(container, key)
                if len(told) > 1:
                    self.assertEqual(field_of(self, Ambiguous, choose, container, key), told)
                else:
                    found = choose(container, key)
                    self.assertEqual(() if found is None else (found.name,), told)
                self.assertEqual(tuple(part.name for part in gather(container, key)), model.gathered_names(container, key))
                self.assertEqual(tuple(part.name for part in wrapping(container, key)), model.wrapping_names(container, key))

    def test_wrong_values(self):
        container = box_of(bind("a"))
        calls = (choose, gather, wrapping, paper, lambda container, key: is_paper(container, key, ()))
        keys = OTHER_KINDS + ("a", ("a", ()), (("a", ()),), (("a", ()), "A"), [("a", ()), ""], ("T", ""), (("T", ()), ""))
        for call in calls:
            for value in OTHER_KINDS + (Container, bind("a"), container.layers, "a", container.levels):
                self.assertTrue(field_of(self, BadContainer, call, value, read_key("a")) is value)
                self.assertTrue(field_of(self, BadContainer, call, value, None) is value)
            for value in keys:
                self.assertTrue(field_of(self, BadKey, call, container, value) is value)


if __name__ == "__main__":
    unittest.main()
