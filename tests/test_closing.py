"""Points [40] to [43]: endings, closing scopes, and using handles."""

import unittest

from tests.build import bind, box_of, field_of, layers_of, wrap
from tests.test_boxes import deep_box, node
from tests.test_resolving import summing
from tests.values import OTHER_KINDS
from wirebox.boxes import Box
from wirebox.errors import Ambiguous, BadHandle, BadScope, Captive, Closed, Failed, Missing, Ring, TooDeep, TooMany
from wirebox.exchanges import exchange
from wirebox.terms import read_key

K = read_key


class CloseTest(unittest.TestCase):
    def test_the_order_of_closing(self):
        container = box_of(bind("a"), bind("app", level="app"), bind("ses", "ses", "plain app", level="ses"), levels="app ses req")
        box = deep_box(container, 1, 1, 2, 3, 2, 2)
        self.assertEqual([box.ask(scope, K(text)) for scope, text in (
            (2, "a"), (4, "ses"), (1, "a"), (5, "a"), (6, "a"), (5, "ses"), (4, "a"), (2, "a"), (7, "a"),
        )], [1, 3, 4, 5, 6, 7, 8, 9, 10])
        self.assertEqual(box.close(6), ())
        before = len(box.log)
        self.assertEqual(box.close(1), ())
        self.assertEqual(box.log[before:], (
            ("ended", 5, None), ("closed", 5), ("ended", 7, None), ("closed", 3),
            ("ended", 10, None), ("closed", 7), ("ended", 8, None), ("closed", 4), ("ended", 9, None), ("ended", 3, None),
            ("ended", 1, None), ("closed", 2),
            ("ended", 4, None), ("ended", 2, None), ("closed", 1),
        ))
        self.assertEqual((box.scopes, [box.things_in(scope) for scope in range(1, 8)]), ((), [()] * 7))

    def test_as_if_all_were_closed_one_by_one(self):
        container = box_of(bind("a", has_end=True, bad_end=(2, 3)), bind("k", "k", "plain a", level="ses"), levels="app ses req")
        one, other = [deep_box(container, 1, 2, 2, 1) for _ in range(2)]
        for box in (one, other):
            for scope, text in ((3, "k"), (4, "a"), (5, "k"), (1, "a"), (2, "a")):
                box.ask(scope, K(text))
        told = one.close(1)
        self.assertEqual(told, sum([other.close(scope) for scope in (5, 4, 3, 2, 1)], ()))
        self.assertEqual(one.log, other.log)

    def test_a_closed_scope_stays_closed(self):
        box = deep_box(box_of(bind("a"), bind("k", level="app")), 1, 1)
        self.assertEqual(box.close(scope=2), ())
        self.assertEqual((box.scopes, box.log[-1]), ((1, 3), ("closed", 2)))
        for call in (box.close, box.enter, lambda scope: box.ask(scope, K("a"))):
            self.assertEqual(field_of(self, Closed, call, 2), 2)
        self.assertEqual(box.level_at(2), "request")
        self.assertEqual(box.close(1), ())
        for scope in (1, 2, 3):
            for call in (box.close, box.enter, lambda scope: box.ask(scope, K("k"))):
                self.assertEqual(field_of(self, Closed, call, scope), scope)
        for value in OTHER_KINDS + (0, 4, -1, True, "1"):
            if not isinstance(value, int) or isinstance(value, bool) or value != 1:
                self.assertTrue(field_of(self, BadScope, box.close, value) is value)

    def test_true_false_and_none(self):
        container = box_of(
            bind("f", "f[T]", has_end=True, bad_end=(1, 3)), wrap("w", "f[b]", has_end=True, bad_end=(2,)), bind("none"),
            wrap("v", "none"),
            bind("e", has_end=True), wrap("u", "e"),
        )
        box = deep_box(container, 1, 1)
        for scope, text in ((2, "f[a]"), (2, "f[b]"), (3, "f[a]"), (3, "f[b]"), (2, "none"), (2, "e")):
            box.ask(scope, K(text))
        before = len(box.log)
        self.assertEqual(box.close(2), (2,))
        self.assertEqual(box.log[before:], (
            ("ended", 10, None), ("ended", 9, True), ("ended", 8, None), ("ended", 7, None), ("ended", 3, True),
            ("ended", 2, False), ("ended", 1, True), ("closed", 2),
        ))
        self.assertEqual(box.close(3), (6, 5))
        self.assertEqual(box.log[-4:], (("ended", 6, False), ("ended", 5, False), ("ended", 4, True), ("closed", 3)))
        self.assertEqual([box.endings_of(name) for name in ("f", "w", "none", "v", "e", "u")], [4, 2, 0, 0, 1, 0])

    def test_endings_are_counted_over_keys_scopes_and_failings(self):
        box = deep_box(box_of(bind("f", "f[T]", has_end=True, bad_end=(1, 4)), bind("x", "x", "plain f[a]", "plain bad"),
            bind("bad", failing=(1,))), 1, 1)
        self.assertEqual(field_of(self, Failed, box.ask, 1, K("x")), "bad")
        self.assertEqual((box.log[-1], box.endings_of("f")), (("ended", 1, False), 1))
        for scope, text in ((2, "f[a]"), (3, "f[b]"), (1, "f[c]")):
            box.ask(scope, K(text))
        self.assertEqual([box.close(3), box.endings_of("f"), box.close(1), box.endings_of(name="f")], [(), 2, (4,), 4])
        for value in OTHER_KINDS + ("", "z", "f[a]", ("f",), b"f"):
            self.assertEqual(box.endings_of(value), 0)

    def test_what_close_tells_is_in_order(self):
        box = deep_box(box_of(bind("a", has_end=True, bad_end=tuple(range(1, 9)))), 1, 1)
        for scope in (1, 2, 3, 2, 1):
            box.ask(scope, K("a"))
        told = box.close(1)
        self.assertIsInstance(told, tuple)
        self.assertEqual(told, (3, 4, 2, 5, 1))

    def test_what_was_put_away_is_given_no_more(self):
        box = deep_box(box_of(bind("k", level="request", has_end=True), bind("a", "a", "plain k")), 1)
        box.ask(2, K("a"))
        box.close(2)
        box.enter(1)
        self.assertEqual((box.ask(3, K("k")), box.lives(1), box.lives(2), box.lives(number=3)), (3, False, False, True))
        self.assertEqual((box.kept_at(2, node("k", "k")), box.kept_at(3, node("k", "k"))), (None, 3))
        before = len(box.log)
        box.close(1)
        self.assertEqual(box.log[before:], (("ended", 3, True), ("closed", 3), ("closed", 1)))
        self.assertEqual([box.thing(number) for number in (1, 2)], [(node("k", "k"), 2, ()), (node("a", "a"), 2, (1,))])


class UseTest(unittest.TestCase):
    def test_kept_and_new_things(self):
        box = deep_box(box_of(bind("a", "a", "lazy k", "lazy n", level="request"), bind("k", level="app"),
            bind("n", "n", "plain k")), 1)
        box.ask(2, K("a"))
        self.assertEqual([box.use(handle) for handle in (1, 1, 2, 2, 1)], [2, 2, 3, 4, 2])
        self.assertEqual([box.thing(number) for number in (2, 3, 4)], [(node("k", "k"), 1, ()), (node("n", "n"), 2, (2,)),
            (node("n", "n"), 2, (2,))])
        self.assertEqual(box.log[4:], (
            ("used", 1), ("made", 2, "k", K("k"), 1, ()), ("gave", 2), ("used", 1), ("gave", 2),
            ("used", 2), ("made", 3, "n", K("n"), 2, (2,)), ("gave", 3), ("used", 2), ("made", 4, "n", K("n"), 2, (2,)),
            ("gave", 4),
            ("used", 1), ("gave", 2),
        ))
        self.assertEqual((box.holders_of(2), box.holders_of(3), box.use(handle=1)), ((3, 4), (), 2))

    def test_in_the_scope_of_the_thing(self):
        box = deep_box(box_of(bind("a", "a", "lazy n", "lazy r", level="app"), bind("n"), bind("r", level="request")), 1)
        self.assertEqual(box.ask(2, K("a")), 1)
        self.assertEqual((box.use(1), box.thing(2)), (2, (node("n", "n"), 1, ())))
        self.assertEqual(field_of(self, Captive, box.use, 2), (K("r"),))
        box.close(2)
        self.assertEqual((box.use(1), box.thing(3)), (3, (node("n", "n"), 1, ())))

    def test_in_the_container_of_the_part(self):
        first = box_of(bind("a", "a", "lazy b"), bind("b"), wrap("v", "a", "lazy b"))
        second = box_of(bind("fake", "b"), wrap("w", "a", "lazy b"), bind("c", "c", "lazy b"), parent=first)
        box = Box(second)
        self.assertEqual((box.ask(1, K("a")), box.ask(1, K("c"))), (3, 4))
        self.assertEqual([box.thing(box.use(handle))[0] for handle in (1, 2, 3, 4)],
            [node("b", "b"), node("b", "b"), node("fake", "b"), node("fake", "b")])

    def test_using_is_asking_anew(self):
        box = Box(box_of(bind("a", "a", "lazy f"), bind("f", "f", "lazy f", failing=(1, 3))))
        box.ask(1, K("a"))
        self.assertEqual(field_of(self, Failed, box.use, 1), "f")
        self.assertEqual(box.log[-2:], (("used", 1), ("failed", "f", K("f"), 1, 1)))
        self.assertEqual((box.use(1), field_of(self, Failed, box.use, 2), box.use(2)), (2, "f", 3))
        self.assertEqual((box.attempts_of("f"), box.handle_of(3)), (4, (3, K("f"))))

    def test_handles_of_things_that_were_put_away(self):
        box = deep_box(box_of(bind("a", "a", "lazy z", "lazy b"), bind("b"), bind("x", "x", "plain a", "plain bad"),
            bind("bad", failing=(1,))), 1)
        box.ask(2, K("a"))
        field_of(self, Failed, box.ask, 1, K("x"))
        self.assertEqual(box.use(2), 3)
        box.close(2)
        before = box.log
        for handle in (1, 2, 3, 4):
            self.assertEqual(field_of(self, Closed, box.use, handle), handle)
            self.assertEqual(box.handle_of(handle), (1 if handle < 3 else 2, K("b") if handle % 2 == 0 else K("z")))
        self.assertEqual(box.log, before)

    def test_wants_that_are_too_deep(self):
        box = deep_box(box_of(bind("f", "f[T]", "lazy g[f[T]]"), bind("g", "g[T]"), wrap("w", "f[T]", "lazy p[T, T, T]")), 1)
        self.assertEqual((box.ask(2, K("f[f[a]]")), box.ask(2, K("f[f[f[a]]]"))), (2, 4))
        self.assertEqual([box.handle_of(handle)[1] for handle in (1, 2, 3, 4)],
            [K("g[f[f[a]]]"), K("p[f[a], f[a], f[a]]"), None, K("p[f[f[a]], f[f[a]], f[f[a]]]")])
        before = box.log
        self.assertEqual(field_of(self, TooDeep, box.use, 3), (K("f[f[f[a]]]"),))
        self.assertEqual(box.log, before)
        self.assertEqual((box.use(1), box.handle_of(3)), (5, (3, None)))
        box.close(2)
        self.assertEqual(field_of(self, Closed, box.use, 3), 3)

    def test_errors_in_order(self):
        clash = bind("left", "p[T, a]"), bind("right", "p[a, T]")
        parts = summing(501) + [bind("leaf"), bind("ring", "ring", "plain ring"), bind("lost", "lost", "plain z"), *clash]
        box = deep_box(box_of(bind("a", "a", "lazy z", "lazy p[a, a]", "lazy ring", "lazy lost", "lazy sum", "lazy leaf"), *parts),
            1)
        box.ask(2, K("a"))
        before = box.log
        for handle, error, told in (
            (1, Missing, (K("z"),)), (2, Ambiguous, ("left", "right")), (3, Ring, (K("ring"),) * 2),
            (4, Missing, (K("lost"), K("z"))), (5, TooMany, 500),
            (7, BadHandle, 7), (0, BadHandle, 0),
        ):
            self.assertEqual(field_of(self, error, box.use, handle), told)
        self.assertEqual(box.log, before)
        for number in range(2, 2001):
            self.assertEqual(box.use(6), number)
        self.assertEqual(field_of(self, TooMany, box.use, 6), 2000)
        self.assertEqual(field_of(self, TooMany, box.use, 5), 500)
        for value in OTHER_KINDS + (0, 7, True, "1", (1,)):
            if not isinstance(value, int) or isinstance(value, bool) or value != 1:
                for call in (box.use, box.handle_of):
                    self.assertTrue(field_of(self, BadHandle, call, value) is value)

    def test_behind_exchanges(self):
        def made(name, *wants):
            first = box_of(bind("a", "a", "lazy b", level="app"), bind(name, "b", *wants), *([bind("c")] if wants else []))
            return layers_of([bind("top", "b")], parent=first)

        box = Box(made("one"))
        self.assertEqual((box.ask(1, K("a")), box.use(1)), (1, 2))
        self.assertEqual(exchange(box, made("two", "plain c")), (2,))
        self.assertEqual((box.use(1), box.thing(4)), (4, (node("two", "b"), 1, (3,))))
        moved = layers_of([bind("a", "a", "lazy b", level="app"), bind("three", "b")], parent=box_of(bind("old", "b")))
        self.assertEqual(exchange(box, moved), (3, 4))
        self.assertEqual((box.use(1), box.thing(5)[0]), (5, node("three", "b")))
        self.assertEqual(exchange(box, layers_of([bind("a", "a", "lazy b", level="app")])), (5,))
        self.assertEqual(field_of(self, Missing, box.use, 1), (K("b"),))


if __name__ == "__main__":
    unittest.main()
