"""Points [60] to [65]: the nodes in question, what they want, how they are held, how long they live, and errors."""

import unittest

from tests.ahead import slow_form
from tests.build import bind, box_of, field_of, layers_of, wrap
from tests.pairs import Pairs
from tests.test_check import GOOD, NO_ROOTS, roots
from tests.test_resolving import counting, node, number_text
from tests.values import OTHER_KINDS
from wirebox.checking import check
from wirebox.errors import BadContainer, BadRoots, TooMany, Troubled, Unchecked
from wirebox.forms import holdings, normal_form
from wirebox.terms import read_key

K = read_key


class FormTest(unittest.TestCase):
    def told(self, container, text, starts, *rows):
        """Whether this is the normal form: rows of node, has_end, life, wants, held, free, the last two told by holdings."""
        asked = roots(text)
        found = normal_form(container, asked)
        self.assertEqual(found, (starts, tuple(row[:4] for row in rows)))
        self.assertEqual(holdings(container, asked), tuple(row[4:] for row in rows))
        self.assertEqual(slow_form(container, asked), (found, holdings(container, asked)))
        self.assertIs(found[1][0][1].__class__, bool)

    def test_one_node(self):
        for end in (True, False):
            for level in (None, "app", "request"):
                self.told(box_of(bind("a", has_end=end, level=level)), "a request", (0,), (node("a", "a"), end, level, (), 0, True))
        self.told(box_of(bind("a")), "a app; a request; a app", (0, 0, 0), (node("a", "a"), False, None, (), 0, True))

    def test_the_order_of_nodes(self):
        container = box_of(
            bind("a", "a", "plain b", "lazy c", "all f[x]"), bind("b", "b", "plain d", "plain c"), bind("c", "c", "lazy e"), bind("d"),
            bind("f", "f[T]", "plain T"), bind("g", "f[x]", "plain d"), bind("x"), bind("e"), bind("k", "k", "plain x"),
        )
        nodes = [node("a", "a"), node("k", "k"), node("b", "b"), node("c", "c"), node("f", "f[x]"), node("g", "f[x]"), node("x", "x"),
                 node("d", "d"), node("e", "e")]
        found = normal_form(container, roots("a app; k app; a request"))
        self.assertEqual((found[0], [row[0] for row in found[1]]), ((0, 1, 0), nodes))
        found = normal_form(container, roots("k app; a app"))
        self.assertEqual((found[0], [row[0] for row in found[1]]), ((0, 1), [nodes[1], nodes[0], nodes[6]] + nodes[2:6] + nodes[7:]))

    def test_words_of_wants(self):
        container = box_of(bind("a", "a", "plain b", "maybe b", "maybe z", "all b", "all z", "lazy a"), bind("b"))
        wants = (("one", (1,)), ("one", (1,)), ("none", ()), ("all", (1,)), ("all", ()), ("lazy", (0,)))
        self.told(container, "a app", (0,), (node("a", "a"), False, None, wants, 0, True), (node("b", "b"), False, None, (), 3, False))
        container = box_of(bind("a", "a", "lazy f[x]", "all f[x]"), bind("f", "f[T]"), bind("g", "f[x]"))
        self.told(container, "a app", (0,), (node("a", "a"), False, None, (("lazy", (1,)), ("all", (2, 1))), 0, True),
                  (node("g", "f[x]"), False, None, (), 1, True), (node("f", "f[x]"), False, None, (), 1, False))

    def test_lazy_wants_back(self):
        container = box_of(bind("a", "a", "plain b", level="app"), bind("b", "b", "lazy a", "lazy b"))
        self.told(container, "a app", (0,), (node("a", "a"), False, "app", (("one", (1,)),), 0, True),
                  (node("b", "b"), False, None, (("lazy", (0,)), ("lazy", (1,))), 1, True))

    def test_wrapped_nodes(self):
        container = box_of(
            bind("a", "a", "plain c", level="app", has_end=True), wrap("v", "a", "plain b", has_end=True), wrap("w", "a", "maybe z", "lazy c"),
            bind("b"), bind("c"),
        )
        self.told(
            container, "a app", (0,),
            (node("a", "a", "v", "w"), False, "app", (("one", (1,)), ("none", ()), ("lazy", (2,))), 0, True),
            (node("a", "a", "v"), True, "app", (("one", (3,)), ("one", (4,))), 1, False),
            (node("c", "c"), False, None, (), 1, True), (node("a", "a"), True, "app", (("one", (2,)),), 1, False),
            (node("b", "b"), False, "app", (), 1, False),
        )

    def test_wants_in_parents(self):
        parent = layers_of([bind("a", "a", "plain b"), bind("b", has_end=True), wrap("v", "a", "plain b")])
        child = layers_of([bind("b2", "b", level="app"), wrap("w", "a", "plain b"), bind("c", "c", "plain a")], parent=parent)
        self.told(
            child, "c app", (0,), (node("c", "c"), False, None, (("one", (1,)),), 0, True),
            (node("a", "a", "v", "w"), False, None, (("one", (2,)), ("one", (3,))), 1, False),
            (node("a", "a", "v"), False, None, (("one", (4,)), ("one", (5,))), 1, False), (node("b2", "b"), False, "app", (), 1, False),
            (node("a", "a"), False, None, (("one", (5,)),), 1, False), (node("b", "b"), True, None, (), 2, False),
        )

    def test_lives(self):
        for a, b, c, told in (
            ("app", None, None, ("app", "app", "app")), (None, None, None, (None, None, None)), (None, "app", None, (None, "app", "app")),
            ("request", None, "app", ("request", "request", "app")), ("request", "app", None, ("request", "app", "app")),
            ("request", "request", "request", ("request",) * 3), ("app", "app", None, ("app",) * 3),
        ):
            container = box_of(bind("a", "a", "plain b", level=a), bind("b", "b", "plain c", level=b), bind("c", level=c))
            self.assertEqual([row[2] for row in normal_form(container, roots("a request"))[1]], list(told))
            # Roots are free, so they keep their own levels.
            for at, more in ((1, "b"), (2, "c")):
                found = {row[0][0]: row[2] for row in normal_form(container, roots(f"a request; {more} request"))[1]}
                self.assertEqual((len(found), found[more]), (3, (a, b, c)[at]))

    def test_lives_end_at_nodes_that_are_held_twice_or_free(self):
        for wants, told in (
            (("plain b", "plain b"), None), (("plain b", "maybe b"), None), (("plain b", "all b"), None), (("plain b", "lazy b"), None),
            (("plain b", "plain d"), None), (("plain b", "maybe z"), "app"), (("all b", "lazy d"), None), (("all b", "lazy c"), "app"),
            (("maybe b", "lazy a"), "app"),
        ):
            container = box_of(bind("a", "a", *wants, level="app"), bind("b", "b", "plain c"), bind("c"), bind("d", "d", "plain b"))
            found = {row[0][0]: row[2] for row in normal_form(container, roots("a app"))[1]}
            self.assertEqual(found["b"], told)
            self.assertEqual(found["c"], None if "lazy c" in wants else told)
            self.assertEqual(slow_form(container, roots("a app"))[0], normal_form(container, roots("a app")))

    def test_nodes_that_are_held_by_several_that_get_lives(self):
        container = box_of(bind("a", "a", "plain b", "plain c", level="app"), bind("b", "b", "plain d"), bind("c", "c", "plain d"), bind("d"))
        found = {row[0][0]: row[2] for row in normal_form(container, roots("a app"))[1]}
        self.assertEqual(found, {"a": "app", "b": "app", "c": "app", "d": None})

    def test_long_rows_of_nodes(self):
        parts = counting("plain end")
        first = bind("first", "first", f"plain {number_text(300)}", level="app")
        found = normal_form(box_of(first, *parts, bind("end")), roots("first app"))
        self.assertEqual([row[2] for row in found[1]], ["app"] * 431)
        found = normal_form(box_of(first, *parts, bind("end")), roots("first app; end app"))
        self.assertEqual([row[2] for row in found[1]], ["app", None] + ["app"] * 429)

    def test_against_the_document(self):
        many = 0
        for seed in range(700):
            pair = Pairs(seed, levels=(5, 30)[seed % 2], wants=(2, 4)[seed % 2])
            try:
                if check(pair.one, pair.roots) is None:
                    many += 1
                    found = normal_form(pair.one, pair.roots), holdings(pair.one, pair.roots)
                    self.assertEqual(found, slow_form(pair.one, pair.roots))
            except TooMany:
                pass
        self.assertGreater(many, 150)


class ErrorsTest(unittest.TestCase):
    def test_containers_and_roots(self):
        good = box_of(bind("a"))
        for call in (normal_form, holdings):
            for value in OTHER_KINDS + ((good,), "a"):
                for asked in ((GOOD,), (), None):
                    self.assertTrue(field_of(self, BadContainer, call, value, asked) is value)
            for value in OTHER_KINDS + ((), (GOOD,) * 21, [GOOD]):
                if not isinstance(value, tuple) or len(value) in (0, 21):
                    self.assertIsNone(field_of(self, BadRoots, call, good, value))
            for value in NO_ROOTS:
                self.assertEqual(field_of(self, BadRoots, call, good, (GOOD, GOOD, value, None)), 2)
            self.assertIsInstance(call(roots=(GOOD,), container=good), tuple)

    def test_too_many(self):
        lines = [part.__class__(part.name, part.pattern, wants=tuple(("lazy", *want[1:]) for want in part.wants), failing=(1,))
                 for part in counting()]
        for call in (normal_form, holdings):
            self.assertEqual(field_of(self, TooMany, call, box_of(*lines), roots(f"{number_text(0)} app")), 300)
            self.assertEqual(len(field_of(self, Troubled, call, box_of(*lines), roots(f"{number_text(429)} app"))), 12)

    def test_unchecked_with_what_the_check_tells(self):
        container = box_of(bind("a", "a", "lazy b", failing=(1,)), bind("b", "b", "plain z"))
        for call in (normal_form, holdings):
            self.assertEqual(field_of(self, Unchecked, call, container, roots("a app")), check(container, roots("a app")))
            self.assertEqual(field_of(self, Unchecked, call, container, roots("a app"))[0], "Missing")

    def test_troubled(self):
        container = box_of(
            bind("a", "a", "plain c", "lazy d", "maybe e"), bind("c", has_end=True, bad_end=(3,)), bind("d", failing=(1,)),
            wrap("w", "e", failing=(1000,)), bind("e", has_end=True, bad_end=(1,)), bind("other", failing=(1,)), bind("b", "b", "plain d"),
            wrap("w2", "c"), wrap("w1", "other", failing=(1,)), bind("c2", "f[T]", failing=(1,)),
        )
        for call in (normal_form, holdings):
            self.assertEqual(field_of(self, Troubled, call, container, roots("a app")), ("c", "d", "e", "w"))
            self.assertEqual(field_of(self, Troubled, call, container, roots("b app")), ("d",))
            self.assertEqual(field_of(self, Troubled, call, container, roots("b app; e app")), ("d", "e", "w"))
            self.assertEqual(field_of(self, Troubled, call, container, roots("other app")), ("other", "w1"))
            self.assertEqual(field_of(self, Troubled, call, layers_of([bind("z", "z", "all c")], parent=container), roots("z app")), ("c",))
        container = box_of(bind("a", has_end=True), bind("b", failing=(1,)))
        self.assertEqual(len(normal_form(container, roots("a app"))[1]), 1)
        self.assertEqual(holdings(container, ((K("a"), "app"),)), ((0, True),))


if __name__ == "__main__":
    unittest.main()
