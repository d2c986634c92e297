"""Points [55] to [58]: rings of nodes, the fewest wants that have to become lazy, and rings that need as many."""

import unittest

from tests.ahead import all_nodes, all_rings, breakers, fewest
from tests.build import bind, box_of, field_of, layers_of, wrap
from tests.test_check import GOOD, NO_ROOTS, roots
from tests.test_resolving import counting, node, number_text
from tests.values import OTHER_KINDS, Hostile
from tests.worlds import GROUND, World
from wirebox.checking import check
from wirebox.errors import BadChange, BadContainer, BadRoots, TooMany
from wirebox.lazies import fewest_lazies, is_ring, made_lazy, rings_of
from wirebox.terms import key_text, read_key

K = read_key


class FewestTest(unittest.TestCase):
    def told(self, container, text, changes):
        """Whether these are the fewest changes, and what stands beside them."""
        asked = roots(text)
        self.assertEqual(fewest_lazies(container, asked), changes)
        found = rings_of(container, asked)
        self.assertIsInstance(found, tuple)
        for ring in found:
            self.assertIs(is_ring(container, ring), True)
        if changes is None:
            self.assertEqual(len(found), 1)
            self.assertEqual(breakers(container, found[0]), set())
        else:
            self.assertEqual(len(fewest(container, found)), len(changes))
            self.assertEqual(fewest_lazies(made_lazy(container, changes), asked), ())
        self.assertEqual(found == (), changes == ())

    def test_no_rings(self):
        container = box_of(bind("a", "a", "plain b", "plain c", "maybe z"), bind("b", "b", "all c", "lazy a"), bind("c", "c", "lazy b"))
        for text in ("a app", "b app; c request", "z app"):
            self.told(container, text, ())

    def test_one_ring(self):
        self.told(box_of(bind("a", "a", "plain a")), "a app", (("a", 0),))
        self.told(box_of(bind("a", "a", "maybe z", "plain a")), "a app", (("a", 1),))
        container = box_of(bind("b", "b", "plain a"), bind("a", "a", "plain c", "plain b"), bind("c"), bind("d", "d", "plain a"))
        for text in ("a app", "b request", "d app", "c app; d app"):
            self.told(container, text, (("a", 1),))
        self.told(container, "c app", ())

    def test_forms_that_do_not_break(self):
        for form in ("maybe", "all"):
            self.told(box_of(bind("a", "a", f"{form} a")), "a app", None)
            self.told(box_of(bind("a", "a", f"{form} b"), bind("b", "b", "plain a")), "a app", (("b", 0),))
            self.told(box_of(bind("a", "a", f"{form} b"), bind("b", "b", "maybe a")), "a app", None)
            self.told(box_of(bind("a", "a", f"{form} b"), bind("b", "b", "lazy a")), "a app", ())

    def test_gathered_nodes(self):
        container = box_of(bind("a", "a", "all f[x]"), bind("f", "f[T]", "plain b"), bind("g", "f[x]", "plain a"), bind("b", "b", "plain a"))
        self.told(container, "a app", (("b", 0), ("g", 0)))
        self.told(container, "f[x] app", (("b", 0), ("g", 0)))
        self.told(container, "f[y] app", (("b", 0), ("g", 0)))

    def test_inner_nodes(self):
        container = box_of(bind("a", "a", "plain b"), wrap("w", "a"), bind("b", "b", "plain a"))
        self.told(container, "a app", (("a", 0),))
        container = box_of(bind("a", "a", "maybe b"), wrap("w", "a", "plain c"), bind("b", "b", "maybe a"), bind("c"))
        self.told(container, "a app", None)
        container = box_of(bind("a"), wrap("w", "a", "plain c", "plain b"), bind("b", "b", "maybe a"), bind("c"))
        self.told(container, "a app", (("w", 2),))
        container = box_of(bind("a", "a", "plain a"), wrap("v", "a"), wrap("w", "a"))
        self.told(container, "a app", (("a", 0),))

    def test_a_change_of_all_nodes_of_a_part(self):
        container = box_of(bind("f", "f[T]", "plain g[T]", "plain f[x]"), bind("g", "g[T]", "plain f[T]"))
        self.told(container, "f[y] app", (("f", 0), ("f", 1)))
        self.told(container, "g[y] app; f[z] app", (("f", 0), ("f", 1)))

    def test_nodes_behind_lazy_wants_and_faults(self):
        container = box_of(bind("a", "a", "lazy b", "plain z", "lazy q", "plain p[x, x]", "plain d[d[x]]"), bind("b", "b", "plain b"),
                           bind("l", "p[T, x]", "plain l"), bind("r", "p[x, T]"), bind("d", "d[T]", "plain d[d[T]]", "maybe c"),
                           bind("c", "c", "plain c"))
        self.told(container, "a app", (("b", 0), ("c", 0)))
        self.told(container, "z app; p[x, x] app; d[x] app", (("c", 0),))

    def test_levels_count_for_nothing(self):
        container = box_of(bind("a", "a", "plain b", level="app"), bind("b", "b", "plain a", level="request"))
        self.told(container, "a app", (("a", 0),))

    def test_the_least_of_several_sets(self):
        container = box_of(bind("c", "c", "plain b", "plain a"), bind("b", "b", "plain c"), bind("a", "a", "plain c"))
        self.told(container, "a app", (("a", 0), ("b", 0)))
        container = box_of(bind("a", "a", "plain b", "plain d"), bind("b", "b", "plain c"), bind("c", "c", "plain a"), bind("d", "d", "plain b"))
        self.told(container, "a app", (("b", 0),))
        container = box_of(bind("b10", "b", "plain c", "plain c"), bind("c", "c", "maybe b"))
        self.told(container, "b app", (("b10", 0), ("b10", 1)))

    def test_parents(self):
        parent = layers_of([bind("a", "a", "plain b"), bind("b", "b", "maybe a")])
        child = layers_of([bind("c", "b", "plain a"), wrap("w", "a", "plain b")], parent=parent)
        self.told(parent, "a app", (("a", 0),))
        self.told(child, "a app", (("a", 0), ("c", 0)))
        # What the parent's a wants is asked in the parent, so its b does not come to the child's wrapper.
        self.told(layers_of([wrap("w", "a", "plain c"), bind("c", "c", "plain a")], parent=layers_of([bind("a")])), "a app", (("c", 0),))

    def test_twelve_changes_and_one_more(self):
        def pairs(many, *more):
            """Rings of one node each, each of which leads to the next one."""
            parts = [bind(f"b{at:02}", f"b{at}", f"plain b{at}", f"plain b{at + 1}") for at in range(many - 1)]
            return box_of(*parts, bind(f"b{many - 1:02}", f"b{many - 1}", f"plain b{many - 1}"), *more)

        self.told(pairs(12), "b0 app", tuple((f"b{at:02}", 0) for at in range(12)))
        self.assertEqual(field_of(self, TooMany, fewest_lazies, pairs(13), roots("b0 app")), 12)
        self.assertEqual(field_of(self, TooMany, rings_of, pairs(13), roots("b0 app")), 12)
        self.told(pairs(13), "b1 app", tuple((f"b{at:02}", 0) for at in range(1, 13)))
        # Wants between rings break nothing, nor do those that lead to a ring.
        ring = bind("ring", "ring", "maybe ring", "plain b0")
        self.told(pairs(12, ring), "ring app", None)
        self.assertEqual(field_of(self, TooMany, fewest_lazies, pairs(13, ring), roots("ring app")), 12)
        self.assertEqual(field_of(self, TooMany, rings_of, pairs(13, ring), roots("ring app")), 12)

    def test_five_hundred_nodes_and_one_more(self):
        container = box_of(*counting("plain own"), bind("own", "own", "plain own"))
        self.told(container, f"{number_text(728 - 498)} app", (("own", 0),))
        for asked in (f"{number_text(728 - 499)} app", f"own app; {number_text(728 - 499)} app"):
            for call in (fewest_lazies, rings_of):
                self.assertEqual(field_of(self, TooMany, call, container, roots(asked)), 500)
        many = [bind(f"r{at}", f"r{at}", f"plain r{at}", f"maybe r{at + 1}") for at in range(13)]
        container = box_of(*counting("plain r0"), *many)
        self.assertEqual(field_of(self, TooMany, fewest_lazies, container, roots(f"{number_text(0)} app")), 500)
        self.assertEqual(field_of(self, TooMany, fewest_lazies, container, roots(f"{number_text(700)} app")), 12)

    def test_long_rings(self):
        first = number_text(486)
        container = box_of(*counting(f"plain {first}"))
        self.told(container, f"{first} app", (("last", 0),))
        ring, = rings_of(container, roots(f"{first} app"))
        self.assertEqual(len(ring), 243)
        self.assertIs(is_ring(container, ring[5:] + ring[:5]), True)
        self.told(box_of(*counting(f"maybe {first}", twice=True)[:9]), f"{first} app", ())
        self.assertEqual(field_of(self, TooMany, fewest_lazies, box_of(*counting(f"plain {number_text(240)}")), roots(f"{first} app")), 12)
        maybes = [part.__class__(part.name, part.pattern, wants=tuple(("maybe", *want[1:]) for want in part.wants)) for part in counting()]
        container = box_of(bind("end", number_text(728), f"plain {number_text(240)}"), *maybes[1:])
        self.told(container, f"{number_text(300)} app", (("end", 0),))
        self.assertEqual(len(rings_of(container, roots(f"{number_text(300)} app"))[0]), 489)

    def test_many_nodes_with_many_changes(self):
        # Each key leads to keys with its parts in another order: 360 nodes, and rings with all kinds of changes.
        shape = "n[p[{}, {}, {}], p[{}, {}, {}]]"
        orders = ("BACDEF", "BCDEFA", "ABDCEF", "FABCDE", "CBADEF", "ABCDFE")
        one = bind("one", shape.format(*"ABCDEF"), *["plain " + shape.format(*order) for order in orders])
        other = [(form, pattern, "x") for form, pattern, _ in one.wants]
        parts = (one, one.__class__("two", one.pattern, tag="x", wants=tuple(other)))
        container = box_of(*parts)
        asked = roots(f"{shape.format(*'uuvwxy')} app")
        self.assertEqual(fewest_lazies(container, asked), tuple(("one", place) for place in range(6)))
        asked = roots(f"{shape.format(*'uuuwxy')} app; {shape.format(*'uuuwxy')}#x app")
        self.assertEqual(fewest_lazies(container, asked), tuple((name, place) for name in ("one", "two") for place in range(6)))

    def test_random_containers(self):
        kinds = {}
        for seed in range(250):
            world = World(seed, opened=20, faults=60, floor=60, wants=3, levels=20)
            container, draw = world.container(), world.random
            asked = tuple((K(text), "request") for text in draw.sample(GROUND, 3))
            rings = all_rings(container, all_nodes(container, asked))
            found = [breakers(container, ring) for ring in rings]
            if len(set().union(*found)) > 12:
                self.assertEqual(field_of(self, TooMany, fewest_lazies, container, asked), 12)
                continue
            changes = None if set() in found else fewest(container, rings)
            kinds[changes if changes is None else len(changes)] = True
            self.told(container, "; ".join(f"{key_text(key)} request" for key, _ in asked), changes)
            for ring in rings:
                self.assertIs(is_ring(container, ring), True)
        self.assertTrue({None, 0, 1, 2, 3} <= set(kinds))

    def test_behind_the_fewest_changes_there_is_no_ring(self):
        many = 0
        for seed in range(400):
            world = World(seed, opened=20, faults=60, floor=70, wants=3, levels=0)
            container, draw = world.container(), world.random
            asked = tuple((K(text), "request") for text in draw.sample(GROUND, 3))
            try:
                changes = fewest_lazies(container, asked)
                if changes is not None:
                    found = check(made_lazy(container, changes), asked)
                    self.assertTrue(found is None or found[0] != "Ring")
                    before = check(container, asked)
                    many += before is not None and before[0] == "Ring"
            except TooMany:
                pass
        self.assertGreater(many, 50)

    def test_all_that_could_be_reached_can_still_be_reached(self):
        for seed in range(60):
            world = World(seed, opened=20, faults=60, floor=70, wants=3, levels=0)
            container = world.container()
            asked = tuple((K(text), "request") for text in world.random.sample(GROUND, 3))
            changes = tuple((part.name, place) for home in container.chain for layer in home.layers for part in layer
                            for place in range(7) if is_plain(part, place) and world.random.randrange(2))
            self.assertEqual(all_nodes(made_lazy(container, changes), asked), all_nodes(container, asked))

    def test_errors(self):
        good = layers_of()
        for call in (fewest_lazies, rings_of):
            for value in OTHER_KINDS + ((good,), "a"):
                for asked in ((GOOD,), (), None):
                    self.assertTrue(field_of(self, BadContainer, call, value, asked) is value)
            for value in OTHER_KINDS + ((), (GOOD,) * 21, [GOOD]):
                if not isinstance(value, tuple) or len(value) in (0, 21):
                    self.assertIsNone(field_of(self, BadRoots, call, good, value))
            for value in NO_ROOTS:
                self.assertEqual(field_of(self, BadRoots, call, good, (GOOD, GOOD, value, None)), 2)
            self.assertEqual(call(roots=(GOOD,), container=good), ())


def is_plain(part, place):
    forms = [want[0] for want in part.wants]
    if part.__class__.__name__ == "Wrapper":
        forms = [None] + forms
    return place < len(forms) and forms[place] == "plain"


class RingTest(unittest.TestCase):
    def test_rings(self):
        container = box_of(bind("a", "a", "plain z", "maybe b", "plain b"), bind("b", "b", "all c"), bind("c", "c", "plain a", "plain c"),
                           bind("e"))
        a, b, c = node("a", "a"), node("b", "b"), node("c", "c")
        for ring in (((a, 1), (b, 0), (c, 0)), ((a, 2), (b, 0), (c, 0)), ((c, 1),)):
            for at in range(len(ring)):
                self.assertIs(is_ring(container, ring[at:] + ring[:at]), True)
        self.assertIs(is_ring(value=((c, 1),), container=container), True)

    def test_what_is_none(self):
        container = box_of(bind("a", "a", "plain z", "maybe b", "lazy b"), bind("b", "b", "all c"), bind("c", "c", "plain a", "plain c"))
        a, b, c = node("a", "a"), node("b", "b"), node("c", "c")
        ring = ((a, 1), (b, 0), (c, 0))
        self.assertIs(is_ring(container, ring), True)
        for value in (
            (), ring[:2], ring[1:], ring[::-1], ring + ring, ring + ring[:1], ((c, 0),), ((c, 1), (c, 1)), list(ring),
            ((a, 2), (b, 0), (c, 0)), ((a, 0), (b, 0), (c, 0)), ((a, 3), (b, 0), (c, 0)), ((a, -2), (b, 0), (c, 0)), ((c, -1),),
            ((a, True), (b, 0), (c, 0)), ((a, 1), (b, False), (c, 0)), ((a, 1.0), (b, 0), (c, 0)), ((a, "1"), (b, 0), (c, 0)),
            ((a, None), (b, 0), (c, 0)), ((a, 1, 1), (b, 0), (c, 0)), ((a,), (b, 0), (c, 0)), ([a, 1], (b, 0), (c, 0)),
            ((node("a", "a", "w"), 1), (b, 0), (c, 0)), ((node("a", "b"), 1), (b, 0), (c, 0)), ((node("b", "a"), 1), (b, 0), (c, 0)),
            (("a", K("a"), []), 1), ((("a", K("a")), 1), (b, 0), (c, 0)), ((a, 10 ** 900), (b, 0), (c, 0)), ((c, 1), (c, 0)),
        ):
            self.assertIs(is_ring(container, value), False, value)
        for value in OTHER_KINDS:
            self.assertIs(is_ring(container, value), False)
            for at in range(3):
                self.assertIs(is_ring(container, ring[:at] + (value,) + ring[at + 1:]), False)
                self.assertIs(is_ring(container, ring[:at] + ((value, ring[at][1]),) + ring[at + 1:]), False)
                if not isinstance(value, int) or isinstance(value, bool):
                    self.assertIs(is_ring(container, ((a, value), (b, 0), (c, 0))), False)

    def test_inner_nodes_and_nodes_of_parents(self):
        parent = layers_of([bind("a", "a", "plain b"), bind("b", "b", "maybe a")])
        child = layers_of([wrap("w", "a", "maybe a")], parent=parent)
        inner, whole, b = node("a", "a"), node("a", "a", "w"), node("b", "b")
        self.assertIs(is_ring(child, ((whole, 1),)), True)
        self.assertIs(is_ring(child, ((inner, 0), (b, 0))), True)
        self.assertIs(is_ring(child, ((b, 0), (inner, 0))), True)
        self.assertIs(is_ring(child, ((whole, 0), (inner, 0), (b, 0))), False)
        self.assertIs(is_ring(parent, ((whole, 1),)), False)
        container = box_of(bind("a", "a", "all b"), wrap("w", "a"), bind("b", "b", "plain a"))
        self.assertIs(is_ring(container, ((whole, 0), (inner, 0), (b, 0))), True)

    def test_bad_containers(self):
        for value in OTHER_KINDS + (box_of, (layers_of(),)):
            for ring in ((), None, ((node("a", "a"), 0),)):
                self.assertTrue(field_of(self, BadContainer, is_ring, value, ring) is value)


class LazyTest(unittest.TestCase):
    def test_changes(self):
        container = box_of(
            bind("a", "f[T]#x", "plain T", "maybe T", "plain b#y", level="app", has_end=True, failing=(1,), bad_end=(2,)),
            wrap("w", "f[T]", "lazy T", "plain b", has_end=True, failing=(3,), bad_end=(4,)), bind("b", "b", "all b"),
        )
        a = bind("a", "f[T]#x", "lazy T", "maybe T", "plain b#y", level="app", has_end=True, failing=(1,), bad_end=(2,))
        both = bind("a", "f[T]#x", "lazy T", "maybe T", "lazy b#y", level="app", has_end=True, failing=(1,), bad_end=(2,))
        w = wrap("w", "f[T]", "lazy T", "lazy b", has_end=True, failing=(3,), bad_end=(4,))
        for changes, parts in (
            ((), container.layers[0]), ((("a", 0),), (a,) + container.layers[0][1:]), ((("w", 2), ("a", 0)), (a, w, container.layers[0][2])),
            ((("a", 2), ("a", 0)), (both,) + container.layers[0][1:]),
        ):
            self.assertEqual(made_lazy(container, changes), box_of(*parts))
        self.assertEqual(made_lazy(changes=(("a", 0),), container=container), box_of(a, *container.layers[0][1:]))
        self.assertEqual(container.layers[0][0].wants[0][0], "plain")

    def test_parents_and_layers(self):
        def chain(first, second, third):
            parent = layers_of([bind("a", "a", f"{first} b"), bind("b")], [], levels="x y")
            child = layers_of([], [wrap("w", "a", f"{second} b")], parent=parent, levels="x y")
            return layers_of([bind("c", "c", "maybe z", f"{third} b")], parent=child, levels="x y")

        plain = ("plain", "plain", "plain")
        for changes, forms in (
            ((("a", 0),), ("lazy", "plain", "plain")), ((("w", 1),), ("plain", "lazy", "plain")),
            ((("c", 1), ("a", 0)), ("lazy", "plain", "lazy")), ((("c", 1), ("w", 1), ("a", 0)), ("lazy",) * 3),
        ):
            self.assertEqual(made_lazy(chain(*plain), changes), chain(*forms))

    def test_bad_changes(self):
        parent = layers_of([bind("p", "p", "plain q")])
        container = layers_of([bind("a", "a", "plain b", "maybe b", "all b", "lazy b"), wrap("w", "a", "plain b", "maybe b"), bind("b")],
                              parent=parent)
        good = ("p", 0)
        for value in OTHER_KINDS + ([], [good], "a"):
            if not isinstance(value, tuple):
                self.assertIsNone(field_of(self, BadChange, made_lazy, container, value))
        for value in OTHER_KINDS + (
            good, ("a", 1), ("a", 2), ("a", 3), ("a", 4), ("a", -4), ("a", -1), ("p", -1), ("w", 0), ("w", 2), ("w", 3), ("b", 0), ("z", 0), ("", 0),
            ("a", True), ("a", False), ("a", 0.0), ("a", None), ("a", "0"), ["a", 0], ("a", 0, 0), ("a",), (0, "a"), ("A", 0), (Hostile(), 0),
            ("a", Hostile()), (None, 0), (["a"], 0), ("abcdefghijklm", 0), ("a", 10 ** 900),
        ):
            self.assertEqual(field_of(self, BadChange, made_lazy, container, (good, ("w", 1), value, None)), 2)
            self.assertEqual(field_of(self, BadChange, made_lazy, container, (("a", 0), good, ("w", 1), value)), 3)
        self.assertEqual(field_of(self, BadChange, made_lazy, container, (good, good)), 1)
        self.assertEqual(field_of(self, BadChange, made_lazy, parent, (("a", 0),)), 0)
        for value in OTHER_KINDS + ((container,), "a"):
            for changes in ((), None, (None,), (good,)):
                self.assertTrue(field_of(self, BadContainer, made_lazy, value, changes) is value)


if __name__ == "__main__":
    unittest.main()
