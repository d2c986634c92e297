"""Point [22]: containers, their levels, layers and chains."""

import unittest

from tests.build import bind, box_of, field_of, layers_of, names, wrap
from tests.values import OTHER_KINDS, Hostile
from wirebox.bindings import Binding, Wrapper
from wirebox.containers import Container
from wirebox.errors import (
    BadLayers, BadLevels, BadParent, NoPart, SameName, TooLarge, Twice, UnknownLevel,
)

A = bind("a")
LEVELS = ("app", "request")


def many(count, mark="x"):
    return tuple(bind(f"{mark}{number}") for number in range(count))


class LevelsTest(unittest.TestCase):
    def test_levels(self):
        for levels in (("a",), ("a", "b"), ("a", "b", "c", "d", "e"), ("z" * 12, "a_1")):
            self.assertIs(Container(levels, ()).levels, levels)

    def test_no_tuple_of_one_to_five(self):
        for value in OTHER_KINDS + ((), ["a"], "a", ("a", "b", "c", "d", "e", "f"), ("a",) * 6, (None,) * 6, {"a": 1}):
            if not isinstance(value, tuple) or len(value) in (0, 6):
                self.assertIsNone(field_of(self, BadLevels, Container, value, ()))
                self.assertIsNone(field_of(self, BadLevels, Container, value, None, parent=1))

    def test_levels_that_are_no_words_or_stood_before(self):
        for levels, index in (
            (("A",), 0), (("a", "a"), 1), (("a", "b", "a"), 2), (("a", "b", "b", "a"), 2), (("a", ""), 1), ((None, "a", "a"), 0),
            (("a", "b", "c", "d", None), 4), (("a", "b", "c", "d", "c"), 4), (("a", ("a",)), 1), ((Hostile(),), 0),
            (("a", Hostile(), "a"), 1), (("a" * 13,), 0), (("a", True), 1),
        ):
            self.assertEqual(field_of(self, BadLevels, Container, levels, ()), index)


class ParentTest(unittest.TestCase):
    def test_chains(self):
        first = box_of(A)
        second = Container(LEVELS, (), parent=first)
        third = Container(LEVELS, ((bind("b"),),), parent=second)
        for container, parent, chain in ((first, None, [first]), (second, first, [first, second]),
            (third, second, [first, second, third])):
            self.assertTrue(container.parent is parent)
            self.assertEqual(len(container.chain), len(chain))
            self.assertTrue(isinstance(container.chain, tuple))
            for one, other in zip(container.chain, chain):
                self.assertTrue(one is other)
        self.assertTrue(field_of(self, BadParent, Container, LEVELS, (), parent=third) is third)

    def test_other_levels(self):
        for levels in (("app",), ("request", "app"), ("app", "request", "x"), ("app", "requests")):
            parent = Container(levels, ())
            self.assertTrue(field_of(self, BadParent, Container, LEVELS, None, parent=parent) is parent)

    def test_no_containers(self):
        for value in OTHER_KINDS[1:] + (A, Container, (box_of(A),), LEVELS):
            self.assertTrue(field_of(self, BadParent, Container, LEVELS, None, parent=value) is value)
            self.assertIsNone(field_of(self, BadLevels, Container, ["app"], None, parent=value))

    def test_by_name_only(self):
        with self.assertRaises(TypeError):
            Container(LEVELS, (), None)
        self.assertIs(Container(layers=(), parent=None, levels=LEVELS).parent, None)


class LayersTest(unittest.TestCase):
    def test_layers(self):
        for layers in ((), ((),), ((A,), (), (bind("b"), wrap("w", "a"))), ((),) * 6):
            container = Container(LEVELS, layers)
            self.assertIs(container.layers, layers)
        self.assertEqual(Container(LEVELS, (), parent=box_of(A)).layers, ())

    def test_no_tuple_of_at_most_six(self):
        for value in OTHER_KINDS + ([], [(A,)], ((),) * 7, (None,) * 7, A, {}):
            if not isinstance(value, tuple) or len(value) > 6:
                self.assertEqual(field_of(self, BadLayers, Container, LEVELS, value), ())

    def test_layers_and_parts_that_are_none(self):
        for layers, path in (
            ((None,), (0,)), ((A,), (0,)), (((A,), [A]), (1,)), (((A,), (None,), None), (1, 0)), (((A,), None, (None,)), (1,)),
            (((A, None),), (0, 1)), (((), (), (A, wrap("w", "a"), "a", None)), (2, 2)), ((((A,),),), (0, 0)), (([],), (0,)),
            (((Binding,),), (0, 0)), (((Wrapper,),), (0, 0)), (((Hostile(),),), (0, 0)), ((Hostile(),), (0,)), ((("a",),), (0, 0)),
            (((A, A, None),), (0, 2)), (((bind("b", level="x"),), (None,)), (1, 0)), (((A,), (A,), {}), (2,)),
        ):
            self.assertEqual(field_of(self, BadLayers, Container, LEVELS, layers), path)
        for value in OTHER_KINDS:
            self.assertEqual(field_of(self, BadLayers, Container, LEVELS, ((A, value),)), (0, 1))
            if not isinstance(value, tuple):
                self.assertEqual(field_of(self, BadLayers, Container, LEVELS, ((A,), value)), (1,))

    def test_the_parent_comes_first(self):
        self.assertEqual(field_of(self, BadParent, Container, LEVELS, (None,), parent=1), 1)


class NamesTest(unittest.TestCase):
    def test_names_that_stood_before(self):
        for layers, path in (
            (((A, A),), (0, 1)), (((A,), (bind("b"), bind("a", "c"))), (1, 1)), (((A,), (wrap("a", "b"),)), (1, 0)),
            (((bind("b"), bind("c")), (), (bind("d"), bind("c", "e"), bind("b", "f"))), (2, 1)),
        ):
            self.assertEqual(field_of(self, SameName, Container, LEVELS, layers), path)

    def test_names_that_stood_in_a_parent(self):
        first = box_of(bind("x"), wrap("w", "x"))
        second = layers_of((bind("y"),), parent=first)
        for name in ("x", "w"):
            self.assertEqual(field_of(self, SameName, Container, LEVELS, ((A,), (bind("b"), bind(name, "c"))), parent=second),
                (1, 1))
            self.assertEqual(field_of(self, SameName, Container, LEVELS, ((wrap(name, "c"),),), parent=first), (0, 0))
        self.assertEqual(field_of(self, SameName, Container, LEVELS, ((bind("y", "c"),),), parent=second), (0, 0))
        self.assertEqual(len(layers_of((bind("y"),), parent=first).chain), 2)

    def test_a_name_is_no_other_one_for_its_pattern(self):
        self.assertEqual(len(box_of(bind("a"), bind("b", "a#x"), wrap("c", "a"), wrap("d", "a")).layers[0]), 4)


class KnownLevelsTest(unittest.TestCase):
    def test_unknown_levels(self):
        part = bind("q", level="session")
        for layers, path in (
            (((part,),), (0, 0)), (((A, bind("b", level="app")), (bind("c", level="request"), part)), (1, 1)),
            (((bind("b", level="a"), part),), (0, 0)), (((), (wrap("w", "b"), part)), (1, 1)),
        ):
            self.assertEqual(field_of(self, UnknownLevel, Container, LEVELS, layers), path)
            self.assertEqual(field_of(self, UnknownLevel, Container, LEVELS, layers, parent=box_of(bind("p"))), path)
        self.assertEqual(names(box_of(bind("b", level="app"), bind("c", level="request"), bind("d")).layers[0]), "b c d")


class TwiceTest(unittest.TestCase):
    def test_alike_patterns_in_a_layer(self):
        for one, other in (("a", "a"), ("T", "S"), ("pair[S, T]", "pair[T, S]"), ("f[T]#x", "f[S]#x"),
            ("g[A, B, A]", "g[B, A, B]")):
            first, second = bind("one", one), bind("two", other)
            self.assertEqual(field_of(self, Twice, Container, LEVELS, ((first, second),)), (0, 1))
            self.assertEqual(field_of(self, Twice, Container, LEVELS, ((), (first, A if one != "a" else bind("b"), second))),
                (1, 2))
            self.assertEqual(len(layers_of((first,), (second,)).layers), 2)
            self.assertEqual(len(layers_of((second,), parent=layers_of((first,))).chain), 2)

    def test_what_is_not_alike(self):
        for one, other in (
            ("a", "b"), ("T", "a"), ("pair[S, T]", "pair[T, T]"), ("f[T]#x", "f[S]"), ("f[T]#x", "f[S]#y"), ("a", "a[a]"),
            ("g[A, B, A]", "g[A, B, B]"), ("f[T]", "f[a]"),
        ):
            self.assertEqual(len(box_of(bind("one", one), bind("two", other)).layers[0]), 2, (one, other))

    def test_wrappers_may_be_alike(self):
        self.assertEqual(len(box_of(wrap("v", "f[T]"), wrap("w", "f[S]"), bind("b", "f[R]")).layers[0]), 3)


class SizeTest(unittest.TestCase):
    def test_sixty_parts_and_more(self):
        parts = many(40) + tuple(wrap(f"w{number}", "T") for number in range(20))
        self.assertEqual(len(Container(LEVELS, (parts,)).layers[0]), 60)
        self.assertEqual(len(Container(LEVELS, (parts[:30], parts[30:])).layers), 2)
        for extra in (bind("more"), wrap("more", "a")):
            self.assertEqual(field_of(self, TooLarge, Container, LEVELS, (parts + (extra,),)), 61)
            self.assertEqual(field_of(self, TooLarge, Container, LEVELS, (parts, (), (extra,))), 61)
            self.assertEqual(field_of(self, TooLarge, Container, LEVELS, ((extra,),), parent=Container(LEVELS, (parts,))), 61)
        self.assertEqual(field_of(self, TooLarge, Container, LEVELS, (many(70),)), 70)

    def test_the_whole_chain_counts(self):
        first = Container(LEVELS, (many(20, "x"),))
        second = Container(LEVELS, (many(20, "y"),), parent=first)
        self.assertEqual(len(Container(LEVELS, (many(20, "z"),), parent=second).chain), 3)
        self.assertEqual(field_of(self, TooLarge, Container, LEVELS, (many(21, "z"),), parent=second), 61)


class OrderTest(unittest.TestCase):
    def test_each_over_all_parts_in_this_order(self):
        unknown, same, alike = bind("q", "qq", level="x"), A, bind("b", "a")
        settings = {"levels": ("app", "app"), "layers": None, "parent": 1}
        self.assertEqual(field_of(self, BadLevels, Container, **settings), 1)
        self.assertEqual(field_of(self, BadParent, Container, **{**settings, "levels": LEVELS}), 1)
        self.assertEqual(field_of(self, BadLayers, Container, LEVELS, None), ())
        large = many(60)
        layers = (large + (A, alike, unknown, same),)
        self.assertEqual(field_of(self, BadLayers, Container, LEVELS, layers + ((None,),)), (1, 0))
        self.assertEqual(field_of(self, SameName, Container, LEVELS, layers), (0, 63))
        self.assertEqual(field_of(self, UnknownLevel, Container, LEVELS, (layers[0][:-1],)), (0, 62))
        self.assertEqual(field_of(self, Twice, Container, LEVELS, (layers[0][:-2],)), (0, 61))
        self.assertEqual(field_of(self, TooLarge, Container, LEVELS, (layers[0][:-3],)), 61)
        self.assertEqual(field_of(self, SameName, Container, LEVELS, ((A, alike), (unknown,), (same,))), (2, 0))
        self.assertEqual(field_of(self, UnknownLevel, Container, LEVELS, ((A, alike), (unknown,))), (1, 0))


class FindingTest(unittest.TestCase):
    def setUp(self):
        self.first = layers_of((A, wrap("w", "a")), (bind("b"),))
        self.second = layers_of((), (bind("c"),), parent=self.first)
        self.third = layers_of((wrap("d", "c"),), parent=self.second)

    def test_parts_and_homes(self):
        for container, told in (
            (self.first, {"a": self.first, "w": self.first, "b": self.first}),
            (self.second, {"a": self.first, "w": self.first, "b": self.first, "c": self.second}),
            (self.third, {"a": self.first, "w": self.first, "b": self.first, "c": self.second, "d": self.third}),
        ):
            for name, home in told.items():
                self.assertTrue(container.home(name) is home)
                part = container.part(name=name)
                self.assertEqual(part.name, name)
                self.assertTrue(any(part is each for layer in home.layers for each in layer))

    def test_no_parts(self):
        for container in (self.first, self.second, self.third):
            for value in OTHER_KINDS + ("", "x", "A", "a ", A, container, ("a",), ["a"]):
                self.assertTrue(field_of(self, NoPart, container.part, value) is value)
                self.assertTrue(field_of(self, NoPart, container.home, value) is value)
        self.assertEqual(field_of(self, NoPart, self.first.part, "c"), "c")
        self.assertEqual(field_of(self, NoPart, self.second.home, "d"), "d")

    def test_defined_in_the_class(self):
        for name in ("levels", "layers", "parent", "chain"):
            self.assertIsInstance(vars(Container)[name], property)
        self.assertTrue(callable(vars(Container)["part"]) and callable(vars(Container)["home"]))


class EqualityTest(unittest.TestCase):
    def make(self, levels="app request", first="a", level=None, layers=1, turned=False, parent="p", extra=()):
        parts = (bind("one", first, level=level), wrap("two", "b"))
        parts = tuple(reversed(parts)) if turned else parts
        layers = (parts,) if layers == 1 else (parts[:1], parts[1:])
        above = None if parent is None else box_of(bind(parent), levels=levels)
        return Container(tuple(levels.split()), layers + extra, parent=above)

    def test_equal_containers(self):
        one = self.make()
        self.assertIs(one == self.make(), True)
        self.assertIs(one != self.make(), False)
        self.assertIs(Container(("a",), ()) == Container(("a",), ()), True)

    def test_unequal_containers(self):
        one = self.make()
        for other in (
            self.make(levels="app"), self.make(levels="request app"), self.make(first="b"), self.make(first="a#x"),
            self.make(level="app"), self.make(layers=2), self.make(turned=True), self.make(parent=None), self.make(parent="q"),
            self.make(extra=((),)),
        ):
            self.assertIs(one == other, False)
            self.assertIs(other == one, False)
            self.assertIs(one != other, True)
        for value in OTHER_KINDS[:-5] + (one.layers, one.parent):
            self.assertIs(one == value, False)


if __name__ == "__main__":
    unittest.main()
