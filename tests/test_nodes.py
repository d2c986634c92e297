"""Point [31]: nodes, their levels, and what they want."""

import unittest

from tests.build import bind, box_of, field_of, layers_of, want, wrap
from tests.machine import maker, resolve
from tests.values import OTHER_KINDS, Hostile, chain_of
from tests.worlds import GROUND, World
from wirebox.bindings import Binding, Wrapper
from wirebox.choosing import gather, wrapping
from wirebox.containers import Container
from wirebox.errors import Ambiguous, BadContainer, BadKey, BadLevel, BadNode, BoxError, Missing, TooDeep
from wirebox.nodes import count_of, level_of_node, node_of, resolved, wanted_by
from wirebox.terms import read_key

CALLS_BY_KEY = (node_of, count_of, lambda container, key: resolved(container, key, "app"))
CALLS_BY_NODE = (level_of_node, wanted_by)
NO_KEYS = OTHER_KINDS + ("a", ("a", ()), (("a", ()),), (("a", ()), "A"), (("a", ()), None), [("a", ()), ""], ("T", ""))


def node(name, text, *wrappers):
    return (name, read_key(text), wrappers)


class NodeOfTest(unittest.TestCase):
    def test_nodes(self):
        first = layers_of([bind("any", "T"), wrap("v", "f[T]"), bind("x", "f[T]#x")], [wrap("u", "f[a]")])
        second = layers_of([wrap("w", "T"), bind("b", "f[b]")], parent=first)
        for container, text, told in (
            (first, "a", node("any", "a")), (first, "f[a]", node("any", "f[a]", "v", "u")),
            (first, "f[b]", node("any", "f[b]", "v")),
            (first, "f[a]#x", node("x", "f[a]#x")), (second, "a", node("any", "a", "w")),
            (second, "f[b]", node("b", "f[b]", "v", "w")),
            (second, "f[a]", node("any", "f[a]", "v", "u", "w")), (second, "f[b]#x", node("x", "f[b]#x")),
        ):
            self.assertEqual(node_of(container, read_key(text)), told)
            self.assertEqual(node_of(key=read_key(text), container=container), told)

    def test_nothing_is_chosen(self):
        container = layers_of([wrap("w", "T")], [bind("a")])
        for text in ("b", "a#x"):
            self.assertEqual(field_of(self, Missing, node_of, container, read_key(text)), (read_key(text),))

    def test_ambiguous_keys(self):
        container = box_of(bind("right", "p[a, T]"), bind("left", "p[T, a]"), bind("any", "T"), wrap("w", "T"))
        self.assertEqual(field_of(self, Ambiguous, node_of, container, read_key("p[a, a]")), ("left", "right"))

    def test_levels(self):
        container = box_of(bind("a", level="app"), bind("b", level="request"), bind("c"), wrap("w", "T"))
        for name, level in (("a", "app"), ("b", "request"), ("c", None)):
            for wrappers in ((), ("w",)):
                self.assertEqual(level_of_node(container, (name, read_key(name), wrappers)), level)
        self.assertEqual(level_of_node(node=node("a", "a"), container=container), "app")


class WantedByTest(unittest.TestCase):
    def test_wants_of_all_forms(self):
        top = bind("top", "top[T]", "plain f[T]", "maybe T", "maybe z", "all T", "all z", "lazy g[T]")
        container = box_of(top, bind("f", "f[T]"), bind("a"), bind("any", "T#x"), bind("one", "S"), bind("h", "z"))
        self.assertEqual(wanted_by(container, node("top", "top[a]")), (
            node("f", "f[a]"), node("a", "a"), node("h", "z"), (node("a", "a"), node("one", "a")),
            (node("one", "z"), node("h", "z")),
            ("lazy", read_key("g[a]")),
        ))
        container = box_of(top, bind("f", "f[T]"))
        self.assertEqual(wanted_by(container, node("top", "top[b]")), (
            node("f", "f[b]"), None, None, (), (), ("lazy", read_key("g[b]")),
        ))
        self.assertEqual(wanted_by(node=node("f", "f[b]"), container=container), ())

    def test_tags(self):
        container = box_of(bind("a", "a", "plain b#x", "all b#x", "lazy b#y"), bind("b"), bind("x", "b#x"), bind("t", "T#x"),
            wrap("w", "b#x"))
        self.assertEqual(wanted_by(container, node("a", "a")), (
            node("x", "b#x", "w"), (node("x", "b#x", "w"), node("t", "b#x", "w")), ("lazy", read_key("b#y")),
        ))

    def test_wrapped_nodes_and_their_inner_ones(self):
        container = box_of(
            bind("a", "a", "plain b"), bind("b"), bind("c"), wrap("v", "a", "plain c"), wrap("w", "a", "lazy a", "all b"),
            wrap("u", "b"),
        )
        self.assertEqual(wanted_by(container, node("a", "a", "v", "w")), (
            node("a", "a", "v"), ("lazy", read_key("a")), (node("b", "b", "u"),),
        ))
        self.assertEqual(wanted_by(container, node("a", "a", "v")), (node("a", "a"), node("c", "c")))
        self.assertEqual(wanted_by(container, node("a", "a")), (node("b", "b", "u"),))
        self.assertEqual(wanted_by(container, node("b", "b", "u")), (node("b", "b"),))

    def test_keys_that_are_too_deep(self):
        container = box_of(bind("a", "f[T]", "lazy g[g[T]]", "plain T"), bind("b", "g[T]", "plain g[g[T]]"), bind("any", "T"))
        self.assertEqual(wanted_by(container, node("a", "f[f[f[a]]]")), (("lazy", None), node("a", "f[f[a]]")))
        self.assertEqual(field_of(self, TooDeep, wanted_by, container, node("b", "g[f[f[a]]]")), (read_key("g[f[f[a]]]"),))
        for form in ("plain", "maybe", "all"):
            container = box_of(bind("a", "f[T]", "lazy g[T]", f"{form} g[f[T]]"))
            key = (("f", (chain_of(3),)), "")
            self.assertEqual(field_of(self, TooDeep, wanted_by, container, ("a", key, ())), (key,))

    def test_faults_in_order(self):
        clash = bind("left", "p[T, a]"), bind("right", "p[a, T]")
        for wants, error, told in (
            (("plain b", "plain c", "plain p[a, a]"), Missing, (read_key("a"), read_key("c"))),
            (("plain p[a, a]", "plain c"), Ambiguous, ("left", "right")), (("maybe p[a, a]",), Ambiguous, ("left", "right")),
            (("maybe c", "all c", "lazy c", "plain c#x"), Missing, (read_key("a"), read_key("c#x"))),
        ):
            container = box_of(bind("a", "a", *wants), bind("b"), *clash)
            self.assertEqual(field_of(self, error, wanted_by, container, node("a", "a")), told)
        container = box_of(bind("a", "a", "all p[a, a]", "lazy p[a, a]"), *clash)
        self.assertEqual(wanted_by(container, node("a", "a")), (
            (node("left", "p[a, a]"), node("right", "p[a, a]")), ("lazy", read_key("p[a, a]")),
        ))
        container = box_of(wrap("w", "a", "plain c"), bind("a"))
        self.assertEqual(field_of(self, Missing, wanted_by, container, node("a", "a", "w")), (read_key("a"), read_key("c")))

    def test_a_child_changes_nothing_of_what_its_parents_parts_want(self):
        first = box_of(bind("a", "a", "plain b", "all b", "maybe c"), bind("b"), wrap("v", "a", "plain b"))
        second = box_of(bind("fake", "b"), bind("c"), wrap("w", "T", "plain b"), parent=first)
        whole = node("a", "a", "v", "w")
        self.assertEqual(node_of(second, read_key("a")), whole)
        self.assertEqual(wanted_by(second, whole), (node("a", "a", "v"), node("fake", "b", "w")))
        self.assertEqual(wanted_by(second, node("a", "a", "v")), (node("a", "a"), node("b", "b")))
        self.assertEqual(wanted_by(second, node("a", "a")), (node("b", "b"), (node("b", "b"),), None))
        self.assertEqual(wanted_by(second, node("b", "b")), ())
        self.assertEqual(wanted_by(second, node("fake", "b", "w")), (node("fake", "b"), node("fake", "b", "w")))
        self.assertEqual(field_of(self, BadNode, wanted_by, second, node("b", "b", "w")), node("b", "b", "w"))


class WrongTest(unittest.TestCase):
    def setUp(self):
        self.first = box_of(bind("a", "T", level="app"), bind("b"), bind("c", "c#x"), wrap("v", "T"))
        self.second = layers_of([wrap("w", "f[T]")], [bind("d", "f[S]"), wrap("u", "f[a]")], parent=self.first)

    def test_no_containers(self):
        right = node("a", "a", "v")
        for value in OTHER_KINDS + (Container, bind("a"), right, "app"):
            for call in CALLS_BY_KEY:
                self.assertTrue(field_of(self, BadContainer, call, value, read_key("a")) is value)
                self.assertTrue(field_of(self, BadContainer, call, value, None) is value)
            for call in CALLS_BY_NODE:
                self.assertTrue(field_of(self, BadContainer, call, value, right) is value)
                self.assertTrue(field_of(self, BadContainer, call, value, None) is value)
            self.assertTrue(field_of(self, BadContainer, resolved, value, None, None) is value)

    def test_no_keys(self):
        for value in NO_KEYS:
            for call in CALLS_BY_KEY:
                self.assertTrue(field_of(self, BadKey, call, self.first, value) is value)
            self.assertTrue(field_of(self, BadKey, resolved, self.first, value, None) is value)

    def test_no_levels(self):
        for value in OTHER_KINDS + ("", "apps", "App", "session", ("app",), 0, ["app"]):
            self.assertTrue(field_of(self, BadLevel, resolved, self.first, read_key("zz"), value) is value)
            self.assertTrue(field_of(self, BadLevel, resolved, layers_of(), read_key("zz"), value) is value)
        self.assertEqual(resolved(level="request", key=read_key("b"), container=self.first), (node("b", "b", "v"), node("b", "b")))

    def test_which_values_are_nodes(self):
        for container, value, right in (
            (self.first, node("a", "a", "v"), True), (self.first, node("a", "a"), True), (self.first, node("a", "b", "v"), True),
            (self.first, node("b", "b"), True), (self.first, node("b", "a"), False), (self.first, node("a", "a", "w"), False),
            (self.first, node("a", "a", "v", "v"), False), (self.first, node("d", "f[a]"), False),
            (self.first, node("v", "a"), False),
            (self.first, node("c", "c#x"), True), (self.first, node("c", "c#x", "v"), False), (self.first, node("c", "c"), False),
            (self.second, node("d", "f[a]", "v", "w", "u"), True), (self.second, node("d", "f[a]", "v", "w"), True),
            (self.second, node("d", "f[a]", "v"), True), (self.second, node("d", "f[a]"), True),
            (self.second, node("d", "f[b]", "v", "w"), True),
            (self.second, node("d", "f[b]", "v", "w", "u"), False), (self.second, node("d", "f[a]", "w"), False),
            (self.second, node("d", "f[a]", "v", "u", "w"), False), (self.second, node("d", "f[a]", "u"), False),
            (self.second, node("a", "f[a]", "v", "w", "u"), True), (self.second, node("a", "f[a]", "v"), True),
            (self.second, node("a", "a", "v"), True), (self.second, node("a", "a", "v", "w"), False),
            (self.second, node("e", "a"), False),
        ):
            if right:
                self.assertEqual(level_of_node(container, value), container.part(value[0]).level, value)
                self.assertIsInstance(wanted_by(container, value), tuple)
            else:
                for call in CALLS_BY_NODE:
                    self.assertTrue(field_of(self, BadNode, call, container, value) is value)

    def test_replaced_bindings(self):
        first = layers_of([bind("one", "f[T]")], [bind("two", "f[S]")])
        second = layers_of([bind("three", "f[T]")], parent=first)
        for container, name, right in ((first, "one", False), (first, "two", True), (second, "two", True), (second, "three", True),
            (second, "one", False)):
            value = (name, read_key("f[a]"), ())
            if right:
                self.assertIsNone(level_of_node(container, value))
            else:
                self.assertTrue(field_of(self, BadNode, level_of_node, container, value) is value)

    def test_bindings_that_are_gathered_but_not_chosen(self):
        container = layers_of([bind("one", "T")], [bind("two", "f[T]"), bind("three", "f[a]")], [wrap("w", "T")])
        for name in ("one", "two", "three"):
            self.assertEqual(wanted_by(container, node(name, "f[a]", "w")), (node(name, "f[a]"),))

    def test_bent_nodes(self):
        right = node("d", "f[a]", "v", "w", "u")
        name, key, wrappers = right
        bent = [list(right), right[:2], right + ((),), (name, key, list(wrappers)), (name, key, "vwu"), (name, key, None),
            (name, key, wrappers[::-1])]
        for value in OTHER_KINDS + ("x", "D"):
            bent += [(value, key, wrappers), (name, value, wrappers), (name, key, (value, *wrappers[1:])),
                (name, key, wrappers[:2] + (value,))]
            bent += [(name, (key[0], value), wrappers), (name, (value, key[1]), wrappers), value]
            if not isinstance(value, tuple):
                bent.append((name, key, value))
        bent += [(Hostile(), Hostile(), Hostile()), (name, key, (Hostile(),)), Hostile(), (name, ("f[a]", ""), wrappers),
            (name, "f[a]", wrappers)]
        for value in bent:
            for call in CALLS_BY_NODE:
                self.assertTrue(field_of(self, BadNode, call, self.second, value) is value)

    def test_all_nodes_of_small_containers(self):
        for seed in range(60):
            container = World(seed, floor=40).container()
            names = [part.name for home in container.chain for layer in home.layers for part in layer]
            for text in GROUND[seed % 3::3]:
                key = read_key(text)
                nodes = []
                for home in container.chain:
                    wrappers = tuple(part.name for part in wrapping(home, key))
                    nodes += [(part.name, key, wrappers[:many]) for part in gather(home, key) for many in range(len(wrappers) + 1)]
                for name in names:
                    whole = tuple(part.name for part in wrapping(container, key))
                    for wrappers in [whole[:many] for many in range(len(whole) + 1)] + [whole[1:], whole[::-1]]:
                        value = (name, key, wrappers)
                        if value in nodes:
                            self.assertEqual(level_of_node(container, value), container.part(name).level)
                        else:
                            self.assertTrue(field_of(self, BadNode, level_of_node, container, value) is value)

    def test_what_is_reached_are_nodes(self):
        for seed in range(60):
            container = World(seed, levels=0, floor=60).container()
            for text in GROUND:
                try:
                    found = resolve(container, container, read_key(text), 2)
                except BoxError:
                    continue
                for each in found:
                    self.assertIsInstance(container.part(each[0]), Binding)
                    self.assertIsInstance(container.part(maker(each)), Wrapper if each[2] else Binding)
                    self.assertIsNone(level_of_node(container, each))

    def test_wants_are_told_as_they_stand(self):
        self.assertEqual(want("lazy f[T]#x"), ("lazy", ("f", ("T",)), "x"))


if __name__ == "__main__":
    unittest.main()
