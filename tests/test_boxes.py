"""Points [30], [34] and [36]: boxes, scopes, asking, and the log."""

import unittest

from tests.build import bind, box_of, field_of, layers_of, texts, wrap
from tests.test_resolving import counting, number_text, summing
from tests.values import OTHER_KINDS, Hostile
from wirebox.boxes import Box
from wirebox.containers import Container
from wirebox.errors import (
    Ambiguous, BadContainer, BadHandle, BadKey, BadScope, BadThing, Captive, Closed, Missing, NoLevel, Ring, TooDeep, TooMany,
)
from wirebox.nodes import node_of
from wirebox.plans import plan
from wirebox.terms import read_key

K = read_key
NO_NUMBERS = OTHER_KINDS + (0, -1, 3, 4, 100, True, False, 1.0, "1", (1,), [1], None, 10 ** 30)


def node(name, text, *wrappers):
    return (name, K(text), wrappers)


def deep_box(container, *below):
    """A box with these scopes entered below others."""
    box = Box(container)
    for scope in below:
        box.enter(scope)
    return box


class ScopesTest(unittest.TestCase):
    def test_scopes_and_levels(self):
        box = Box(layers_of(levels="app ses req"))
        self.assertEqual((box.scopes, box.level_at(1), box.log), ((1,), "app", ()))
        self.assertEqual([box.enter(scope) for scope in (1, 1, 2, 3, 2)], [2, 3, 4, 5, 6])
        self.assertEqual(box.scopes, (1, 2, 3, 4, 5, 6))
        self.assertEqual([box.level_at(scope) for scope in box.scopes], ["app", "ses", "ses", "req", "req", "req"])
        self.assertEqual(box.log, (("entered", 2, 1), ("entered", 3, 1), ("entered", 4, 2), ("entered", 5, 3), ("entered", 6, 2)))
        self.assertEqual(Box(layers_of(levels="app")).level_at(scope=1), "app")

    def test_one_hundred_scopes_and_one_more(self):
        box = Box(layers_of())
        self.assertEqual([box.enter(1) for _ in range(99)], list(range(2, 101)))
        self.assertEqual(field_of(self, TooMany, box.enter, 1), 100)
        self.assertEqual(len(box.log), 99)
        box.close(7)
        self.assertEqual(field_of(self, TooMany, box.enter, 1), 100)
        self.assertEqual(len(box.scopes), 99)

    def test_errors_in_order(self):
        box = deep_box(layers_of(), 1, 1)
        for value in OTHER_KINDS + (0, -1, 4, True, 1.0, "1", (1,), None, 10 ** 30, Hostile()):
            if not isinstance(value, int) or isinstance(value, bool) or value != 1:
                self.assertTrue(field_of(self, BadScope, box.enter, value) is value)
        box.close(2)
        self.assertEqual(field_of(self, Closed, box.enter, 2), 2)
        self.assertEqual(field_of(self, NoLevel, box.enter, 3), "request")
        for _ in range(97):
            box.enter(1)
        self.assertEqual(len(box.scopes), 99)
        self.assertEqual(field_of(self, BadScope, box.enter, 101), 101)
        self.assertEqual(field_of(self, Closed, box.enter, 2), 2)
        self.assertEqual(field_of(self, NoLevel, box.enter, 3), "request")
        self.assertEqual(field_of(self, TooMany, box.enter, 1), 100)
        self.assertEqual(field_of(self, NoLevel, Box(layers_of(levels="one")).enter, 1), "one")
        box.close(1)
        self.assertEqual(field_of(self, Closed, box.enter, scope=1), 1)

    def test_no_containers(self):
        for value in OTHER_KINDS + (Container, Box, bind("a"), Box(layers_of()), ()):
            self.assertTrue(field_of(self, BadContainer, Box, value) is value)
        container = layers_of()
        self.assertTrue(Box(container=container).container is container)

    def test_defined_in_the_class(self):
        for name in ("container", "log", "scopes"):
            self.assertIsInstance(vars(Box)[name], property)
        for name in ("enter", "ask", "level_at", "things_in", "kept_at", "thing", "lives", "holders_of", "attempts_of", "twin",
            "close", "use",
                     "handle_of", "endings_of"):
            self.assertTrue(callable(vars(Box)[name]), name)


class AskTest(unittest.TestCase):
    def test_things_without_a_level(self):
        box = deep_box(box_of(bind("a", "a", "plain b"), bind("b")), 1)
        self.assertEqual([box.ask(2, K("a")), box.ask(2, K("a")), box.ask(1, K("b"))], [2, 4, 5])
        self.assertEqual([box.thing(number) for number in (1, 2, 3, 4, 5)], [
            (node("b", "b"), 2, ()), (node("a", "a"), 2, (1,)), (node("b", "b"), 2, ()), (node("a", "a"), 2, (3,)),
            (node("b", "b"), 1, ()),
        ])
        self.assertEqual((box.things_in(1), box.things_in(2)), ((5,), (1, 2, 3, 4)))
        for number in range(1, 6):
            self.assertIs(box.lives(number), True)
            self.assertIsNone(box.kept_at(box.thing(number)[1], box.thing(number)[0]))

    def test_kept_things(self):
        container = box_of(
            bind("app", level="app"), bind("ses", "ses", "plain app", level="ses"), bind("req", "req", "plain ses", level="req"),
            levels="app ses req",
        )
        box = deep_box(container, 1, 2, 2)
        self.assertEqual([box.ask(scope, K("req")) for scope in (3, 4, 3)], [3, 4, 3])
        self.assertEqual([box.ask(scope, K("app")) for scope in (1, 2, 3, 4)], [1] * 4)
        self.assertEqual([box.ask(scope, K("ses")) for scope in (2, 3, 4)], [2] * 3)
        self.assertEqual([box.thing(number)[1:] for number in (1, 2, 3, 4)], [(1, ()), (2, (1,)), (3, (2,)), (4, (2,))])
        self.assertEqual([box.things_in(scope) for scope in (1, 2, 3, 4)], [(1,), (2,), (3,), (4,)])
        box.enter(1)
        self.assertEqual([box.ask(5, K("ses")), box.ask(5, K("ses")), box.ask(5, K("app"))], [5, 5, 1])
        self.assertEqual(box.thing(5), (node("ses", "ses"), 5, (1,)))

    def test_things_of_other_nodes_are_kept_apart(self):
        box = Box(box_of(bind("f", "f[T]", level="app"), bind("x", "f[T]#x", level="app"), wrap("w", "f[b]")))
        self.assertEqual([box.ask(1, K(text)) for text in ("f[a]", "f[b]", "f[a]#x", "f[a]", "f[b]", "f[a]#x")], [1, 3, 4, 1, 3, 4])
        self.assertEqual(box.kept_at(1, node("f", "f[b]")), 2)
        self.assertEqual(box.kept_at(1, node("f", "f[b]", "w")), 3)

    def test_in_which_scope_things_live(self):
        container = box_of(bind("app", "app", "plain free", level="app"), bind("free", "free", "plain ses"),
            bind("ses", level="app"),
                           bind("top", "top", "plain app", "plain free"), levels="app req")
        box = deep_box(container, 1)
        self.assertEqual(box.ask(2, K("top")), 5)
        self.assertEqual([box.thing(number) for number in (1, 2, 3, 4, 5)], [
            (node("ses", "ses"), 1, ()), (node("free", "free"), 1, (1,)), (node("app", "app"), 1, (2,)),
            (node("free", "free"), 2, (1,)),
            (node("top", "top"), 2, (3, 4)),
        ])

    def test_the_order_of_makings(self):
        container = box_of(
            bind("a", "a", "plain b", "all f[x]", "lazy c", "maybe c"), bind("b", "b", "plain c"), bind("c"), bind("f", "f[T]"),
            bind("g", "f[x]", "plain c"),
            wrap("v", "a", "plain c"), wrap("w", "a", "plain b"),
        )
        box = Box(container)
        self.assertEqual(box.ask(1, K("a")), 12)
        made = [(row[1], row[2], texts([row[3]]), row[4], row[5]) for row in box.log[1:-1]]
        self.assertEqual(made, [
            (1, "c", "c", 1, ()), (2, "b", "b", 1, (1,)), (3, "f", "f[x]", 1, ()), (4, "c", "c", 1, ()), (5, "g", "f[x]", 1, (4,)),
            (6, "c", "c", 1, ()), (7, "a", "a", 1, (2, (3, 5), ("handle", 1), 6)), (8, "c", "c", 1, ()), (9, "v", "a", 1, (7, 8)),
            (10, "c", "c", 1, ()), (11, "b", "b", 1, (10,)), (12, "w", "a", 1, (9, 11)),
        ])

    def test_what_things_hold(self):
        box = Box(layers_of(
            [bind("a", "a", "maybe z#x", "all z#x", "all k", "maybe k", "lazy z", "plain k"), bind("l", "S"),
                bind("k", level="app")],
        ))
        self.assertEqual(box.ask(1, K("a")), 3)
        self.assertEqual(box.thing(3)[2], (None, (), (1, 2), 2, ("handle", 1), 2))
        self.assertEqual((box.holders_of(1), box.holders_of(2), box.holders_of(3)), ((3,), (3,), ()))

    def test_handles(self):
        box = Box(box_of(bind("a", "a", "lazy x", "plain b", "lazy y", "lazy f[f[f[z]]]"), bind("b", "b", "lazy z"),
            bind("g", "g[T]", "lazy g[T]", "lazy g[g[T]]")))
        self.assertEqual(box.ask(1, K("a")), 2)
        self.assertEqual([box.thing(number)[2] for number in (1, 2)], [(("handle", 1),),
            (("handle", 2), 1, ("handle", 3), ("handle", 4))])
        self.assertEqual([box.handle_of(handle) for handle in (1, 2, 3, 4)],
            [(1, K("z")), (2, K("x")), (2, K("y")), (2, K("f[f[f[z]]]"))])
        self.assertEqual(box.ask(1, K("g[g[g[z]]]")), 3)
        self.assertEqual([box.handle_of(handle) for handle in (5, 6)], [(3, K("g[g[g[z]]]")), (3, None)])
        self.assertEqual(box.handle_of(handle=1), (1, K("z")))

    def test_holders(self):
        container = box_of(bind("k", level="app"), bind("a", "a", "plain k", "all k", "plain k"),
            bind("b", "b", "plain a", "maybe k"), bind("l", "l", "lazy k"))
        box = deep_box(container, 1)
        self.assertEqual([box.ask(1, K("a")), box.ask(2, K("b")), box.ask(2, K("l"))], [2, 4, 5])
        self.assertEqual([box.holders_of(number) for number in range(1, 6)], [(2, 3, 4), (), (4,), (), ()])
        box.close(2)
        self.assertEqual([box.holders_of(number) for number in range(1, 6)], [(2,), (), (), (), ()])

    def test_attempts_are_counted_over_keys_and_scopes(self):
        box = deep_box(box_of(bind("f", "f[T]"), bind("k", level="app"), wrap("w", "f[a]"), bind("x", "x", "plain f[b]")), 1)
        for scope, text in ((1, "f[a]"), (2, "f[b]"), (2, "f[a]"), (2, "k"), (1, "k"), (2, "x")):
            box.ask(scope, K(text))
        self.assertEqual([box.attempts_of(name) for name in ("f", "w", "k", "x", "z", "", "f[a]")], [4, 2, 1, 1, 0, 0, 0])
        for value in OTHER_KINDS:
            self.assertEqual(box.attempts_of(value), 0)
        self.assertEqual(box.attempts_of(name="f"), 4)

    def test_a_chain_of_five_hundred_things(self):
        box = Box(box_of(*counting()))
        self.assertEqual(box.ask(1, K(number_text(229))), 500)
        self.assertEqual(box.thing(500), (node_of(box.container, K(number_text(229))), 1, (499,)))
        self.assertEqual(box.thing(1)[2], ())

    def test_parents(self):
        first = box_of(bind("a", "a", "plain b", level="app"), bind("b"), bind("c", "c", "plain a"))
        second = box_of(bind("fake", "b"), wrap("w", "a", "plain b"), parent=first)
        box = Box(second)
        self.assertEqual([box.ask(1, K(text)) for text in ("c", "a", "b")], [3, 5, 6])
        self.assertEqual([box.thing(number) for number in range(1, 7)], [
            (node("b", "b"), 1, ()), (node("a", "a"), 1, (1,)), (node("c", "c"), 1, (2,)), (node("fake", "b"), 1, ()),
            (node("a", "a", "w"), 1, (2, 4)),
            (node("fake", "b"), 1, ()),
        ])


class BoundTest(unittest.TestCase):
    def test_two_thousand_things(self):
        parts = summing(500) + [bind("leaf"), bind("kept", level="app"), bind("few", "few", *["plain leaf"] * 6), bind("free"),
            bind("other", level="app")]
        box = deep_box(box_of(*parts), 1, 1)
        self.assertEqual(box.ask(1, K("kept")), 1)
        self.assertEqual([box.ask(scope, K("sum")) for scope in (1, 2, 3)], [501, 1001, 1501])
        for _ in range(71):
            box.ask(2, K("few"))
        self.assertEqual(box.ask(2, K("free")), 1999)
        before = box.log
        for text in ("sum", "few"):
            self.assertEqual(field_of(self, TooMany, box.ask, 1, K(text)), 2000)
            self.assertEqual(field_of(self, TooMany, plan, box, 1, K(text)), 2000)
        self.assertEqual(box.log, before)
        self.assertEqual(box.ask(2, K("kept")), 1)
        box.close(2)
        self.assertEqual(field_of(self, TooMany, box.ask, 1, K("few")), 2000)
        self.assertEqual(box.ask(1, K("free")), 2000)
        before = box.log
        for text in ("free", "kept", "other", "leaf"):
            self.assertEqual(field_of(self, TooMany, box.ask, 1, K(text)), 2000)
            self.assertEqual(field_of(self, TooMany, box.ask, 3, K(text)), 2000)
        self.assertEqual((box.log, len(box.things_in(1))), (before, 502))

    def test_kept_ones_are_counted(self):
        parts = summing(500) + [bind("leaf"), bind("top", "top", "plain k1", "plain k2"), bind("k1", level="app"),
            bind("k2", level="app")]
        box = Box(box_of(*parts))
        self.assertEqual([box.ask(1, K("sum")) for _ in range(3)], [500, 1000, 1500])
        for _ in range(6):
            box.ask(1, K("leaf"))
        self.assertEqual(box.ask(1, K("top")), 1509)
        for number in range(1510, 1999):
            self.assertEqual(box.ask(1, K("top")), number)
        self.assertEqual(field_of(self, TooMany, box.ask, 1, K("top")), 2000)
        self.assertEqual([box.ask(1, K("leaf")), box.ask(1, K("leaf"))], [1999, 2000])

    def test_too_many_by_count_comes_ahead(self):
        box = Box(box_of(*summing(500), bind("leaf"), bind("more", "more", "plain sum", "plain leaf"),
            bind("lost", "lost", "plain sum", "plain z")))
        for _ in range(4):
            box.ask(1, K("sum"))
        self.assertEqual(field_of(self, TooMany, box.ask, 1, K("leaf")), 2000)
        self.assertEqual(field_of(self, TooMany, box.ask, 1, K("more")), 500)
        self.assertEqual(texts(field_of(self, Missing, box.ask, 1, K("lost"))), "lost z")


class RefusedTest(unittest.TestCase):
    def setUp(self):
        self.box = deep_box(box_of(
            bind("a", "a", "plain b", "lazy z"), bind("b", level="app"), bind("late", level="request"),
            bind("lost", "lost", "plain a", "plain z"),
            bind("right", "p[a, T]"), bind("left", "p[T, a]"), bind("ring", "ring", "plain ring"),
            bind("f", "f[T]", "plain g[f[T]]"), *summing(501), bind("leaf"),
        ), 1, 1)
        self.box.ask(2, K("a"))
        self.box.close(3)

    def state(self):
        box = self.box
        return (
            box.log, box.scopes, [box.things_in(scope) for scope in (1, 2, 3)], [box.thing(number) for number in (1, 2)],
            box.handle_of(1),
            [box.attempts_of(name) for name in ("a", "b", "late", "lost", "leaf")], [box.lives(number) for number in (1, 2)],
        )

    def test_a_refused_call_changes_nothing(self):
        before = self.state()
        for call, told, error, field in (
            (self.box.ask, (9, K("a")), BadScope, 9), (self.box.ask, (3, K("a")), Closed, 3), (self.box.ask, (2, "a"), BadKey, "a"),
            (self.box.ask, (2, K("z")), Missing, (K("z"),)), (self.box.ask, (2, K("lost")), Missing, (K("lost"), K("z"))),
            (self.box.ask, (1, K("late")), Captive, (K("late"),)), (self.box.ask, (2, K("p[a, a]")), Ambiguous, ("left", "right")),
            (self.box.ask, (2, K("ring")), Ring, (K("ring"), K("ring"))),
            (self.box.ask, (2, K("f[f[f[a]]]")), TooDeep, (K("f[f[f[a]]]"),)),
            (self.box.ask, (2, K("sum")), TooMany, 500), (self.box.use, (1,), Missing, (K("z"),)),
            (self.box.use, (2,), BadHandle, 2),
            (self.box.close, (3,), Closed, 3), (self.box.close, (0,), BadScope, 0), (self.box.enter, (2,), NoLevel, "request"),
        ):
            self.assertEqual(field_of(self, error, call, *told), field)
            self.assertEqual(self.state(), before)

    def test_errors_of_asking_in_order(self):
        for value in NO_NUMBERS:
            if not isinstance(value, int) or isinstance(value, bool) or value not in (1, 3):
                self.assertTrue(field_of(self, BadScope, self.box.ask, value, None) is value)
                self.assertTrue(field_of(self, BadScope, self.box.ask, value, K("a")) is value)
        for value in OTHER_KINDS + ("a", ("a", ()), (("a", ()),), (("a", ()), "A"), [("a", ()), ""], ("T", "")):
            self.assertEqual(field_of(self, Closed, self.box.ask, 3, value), 3)
            self.assertTrue(field_of(self, BadKey, self.box.ask, 2, value) is value)
        self.assertEqual(self.box.ask(key=K("b"), scope=2), 1)

    def test_numbers_that_are_none(self):
        for value in NO_NUMBERS:
            if not isinstance(value, int) or isinstance(value, bool) or value not in (1, 3):
                for call in (self.box.level_at, self.box.things_in, lambda scope: self.box.kept_at(scope, None), self.box.close,
                    self.box.enter):
                    self.assertTrue(field_of(self, BadScope, call, value) is value)
            if not isinstance(value, int) or isinstance(value, bool) or value not in (1, 2):
                for call in (self.box.thing, self.box.lives, self.box.holders_of):
                    self.assertTrue(field_of(self, BadThing, call, value) is value)
            if not isinstance(value, int) or isinstance(value, bool) or value != 1:
                for call in (self.box.use, self.box.handle_of):
                    self.assertTrue(field_of(self, BadHandle, call, value) is value)
        self.assertEqual((self.box.level_at(3), self.box.things_in(3), self.box.things_in(scope=1)), ("request", (), (1,)))

    def test_kept_at_for_any_value(self):
        right = node("b", "b")
        self.assertEqual(self.box.kept_at(1, right), 1)
        self.assertEqual(self.box.kept_at(node=right, scope=1), 1)
        self.assertIsNone(self.box.kept_at(2, right))
        self.assertIsNone(self.box.kept_at(3, right))
        name, key, wrappers = right
        for value in OTHER_KINDS:
            bent = [value, (value, key, wrappers), (name, value, wrappers), (name, key, (value,)),
                (name, (key[0], value), wrappers), (name, (value, ""), wrappers)]
            if not isinstance(value, tuple):
                bent.append((name, key, value))
            for each in bent:
                self.assertIsNone(self.box.kept_at(1, each))
        for each in (list(right), right[:2], right + (1,), node("b", "b", "w"), node("a", "b"), node("b", "a"), node("b", "b#x"),
            node("a", "a")):
            self.assertIsNone(self.box.kept_at(1, each))
            self.assertIsNone(self.box.kept_at(2, each))


class LogTest(unittest.TestCase):
    def test_row_by_row(self):
        container = box_of(bind("a", "f[T]", "plain b", "lazy T"), bind("b", level="app", has_end=True), wrap("w", "f[T]"))
        box = Box(container)
        key = K("f[x]")
        rows = []
        for call, told, more in (
            (box.enter, (1,), [("entered", 2, 1)]),
            (box.ask, (2, key), [
                ("asked", 2, key), ("made", 1, "b", K("b"), 1, ()), ("made", 2, "a", key, 2, (1, ("handle", 1))),
                ("made", 3, "w", key, 2, (2,)), ("gave", 3),
            ]),
            (box.ask, (1, K("b")), [("asked", 1, K("b")), ("gave", 1)]),
            (box.ask, (1, key), [
                ("asked", 1, key), ("made", 4, "a", key, 1, (1, ("handle", 2))), ("made", 5, "w", key, 1, (4,)), ("gave", 5),
            ]),
        ):
            call(*told)
            rows += more
            self.assertEqual(box.log, tuple(rows))
        self.assertIsInstance(box.log, tuple)

    def test_boxes_do_not_share_anything(self):
        container = box_of(bind("a", "a", "lazy a", level="app"))
        one, other = Box(container), Box(container)
        one.ask(1, K("a"))
        one.enter(1)
        self.assertEqual((other.log, other.scopes, other.things_in(1), other.attempts_of("a")), ((), (1,), (), 0))
        self.assertEqual(other.ask(1, K("a")), 1)

    def test_twins(self):
        container = box_of(bind("a", "a", "lazy b", level="app", has_end=True), bind("b"))
        box = Box(container)
        box.ask(1, K("a"))
        twin = box.twin()
        self.assertIsInstance(twin, Box)
        self.assertEqual((twin.log, twin.scopes, twin.thing(1), twin.kept_at(1, node("a", "a")), twin.attempts_of("a"),
            twin.handle_of(1)),
                         (box.log, box.scopes, box.thing(1), 1, 1, (1, K("b"))))
        twin.enter(1)
        twin.use(1)
        twin.close(1)
        self.assertEqual(box.log, (("asked", 1, K("a")), ("made", 1, "a", K("a"), 1, (("handle", 1),)), ("gave", 1)))
        self.assertEqual((box.scopes, box.lives(1), box.endings_of("a")), ((1,), True, 0))
        self.assertEqual((twin.scopes, twin.lives(1), twin.endings_of("a"), twin.thing(2)), ((), False, 1, (node("b", "b"), 1, ())))
        self.assertEqual(box.enter(1), 2)
        self.assertEqual(twin.log[3], ("entered", 2, 1))


if __name__ == "__main__":
    unittest.main()
