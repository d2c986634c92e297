"""Points [70] to [72]: nodes that come otherwise, stale things, and exchanges."""

import unittest

from tests.build import bind, box_of, field_of, layers_of, wrap
from tests.test_boxes import deep_box, node
from tests.values import OTHER_KINDS
from wirebox.boxes import Box
from wirebox.containers import Container
from wirebox.errors import BadBox, BadContainer, BadNode, Failed, Unlike
from wirebox.exchanges import comes_otherwise, exchange, stale_paper, stale_things
from wirebox.terms import read_key

K = read_key


class OtherwiseTest(unittest.TestCase):
    def told(self, one, other, value, right):
        """Whether a node comes otherwise, and why its thing is stale, if one can be made."""
        self.assertIs(comes_otherwise(one, other, value), right is not None)
        self.assertIs(comes_otherwise(one, one, value), False)
        box = Box(one)
        for scope in range(1, len(one.levels)):
            box.enter(scope)
        number = box.ask(len(one.levels), value[1])
        is_outer = box.thing(number)[0] == value
        while box.thing(number)[0] != value:
            number = box.thing(number)[2][0]
        if right is not None or is_outer:
            self.assertEqual(dict(stale_paper(box, other)).get(number), right)

    def test_no_node_any_more(self):
        one = box_of(bind("a", "f[T]"), wrap("v", "f[x]"), wrap("w", "f[T]"))
        whole, middle, inner = node("a", "f[x]", "v", "w"), node("a", "f[x]", "v"), node("a", "f[x]")
        rows = (
            (box_of(bind("b", "f[T]"), wrap("v", "f[x]"), wrap("w", "f[T]")), 1, 1, 1), (layers_of(), 1, 1, 1),
            (box_of(bind("a", "f[y]"), wrap("v", "f[x]"), wrap("w", "f[T]")), 1, 1, 1),
            (box_of(bind("a", "f[T]#x"), wrap("v", "f[x]"), wrap("w", "f[T]")), 1, 1, 1),
            (box_of(bind("a", "f[T]"), wrap("v", "f[x]")), 1, 0, 0), (box_of(bind("a", "f[T]"), wrap("w", "f[T]")), 1, 1, 0),
            (box_of(bind("a", "f[T]"), wrap("w", "f[T]"), wrap("v", "f[x]")), 1, 1, 0),
            (box_of(bind("a", "f[T]"), wrap("v", "f[x]"), wrap("w", "f[y]")), 1, 0, 0),
            (box_of(bind("a", "f[T]"), wrap("v", "f[x]"), wrap("u", "f[T]"), wrap("w", "f[T]")), 1, 0, 0),
            (box_of(bind("a", "f[T]"), wrap("v", "f[x]"), wrap("w", "f[T]"), wrap("u", "f[T]")), 0, 0, 0),
        )
        for other, *ways in rows:
            for value, way in zip((whole, middle, inner), ways):
                self.told(one, other, value, ("node",) if way else None)

    def test_bindings_that_are_covered_or_replaced(self):
        one = box_of(bind("a", "f[T]"))
        value = node("a", "f[x]")
        self.told(one, layers_of([bind("a", "f[T]")], [bind("b", "T")]), value, None)
        self.told(one, layers_of([bind("a", "f[T]"), bind("b", "f[x]")]), value, None)
        self.told(one, layers_of([bind("a", "f[T]")], [bind("b", "f[S]")]), value, ("node",))
        self.told(one, layers_of([bind("b", "f[S]")], parent=layers_of([bind("a", "f[T]")])), value, None)
        self.told(one, layers_of([wrap("w", "T")], parent=layers_of([bind("a", "f[T]")])), value, None)
        self.told(one, layers_of([bind("b", "f[S]")], parent=layers_of([bind("a", "f[T]")], [bind("c", "f[S]")])), value, ("node",))
        self.told(box_of(bind("a", "f[T]"), wrap("w", "T")), layers_of([wrap("w", "T"), bind("b", "f[S]")],
            parent=layers_of([bind("a", "f[T]")])), node("a", "f[x]", "w"), ("node",))

    def test_ends_and_levels(self):
        one = box_of(bind("a", has_end=True, level="app"), wrap("w", "a"))
        for end, level, wrapped, inner, whole in (
            (True, "app", False, None, None), (False, "app", False, ("end",), ("holds", 1)), (True, "app", True, None, ("end",)),
            (True, "request", False, ("level",), ("level",)), (True, None, False, ("level",), ("level",)),
            (False, None, True, ("end",), ("end",)),
        ):
            other = box_of(bind("a", has_end=end, level=level), wrap("w", "a", has_end=wrapped))
            self.assertIs(comes_otherwise(one, other, node("a", "a", "w")), whole is not None and whole[0] != "holds")
            self.assertIs(comes_otherwise(one, other, node("a", "a")), inner is not None)
            box = Box(one)
            box.ask(1, K("a"))
            told = tuple((number, why) for number, why in ((1, inner), (2, whole)) if why is not None)
            self.assertEqual(stale_paper(box, other), told)

    def test_failing_and_bad_endings_do_not_matter(self):
        one = box_of(bind("a", "f[T]", "plain b", has_end=True, failing=(7,), bad_end=(1,)), bind("b"),
            wrap("w", "f[T]", failing=(9,)))
        other = box_of(bind("a", "f[T]", "plain b", has_end=True), bind("b", failing=(3,)), wrap("w", "f[T]", has_end=False))
        for value in (node("a", "f[x]", "w"), node("a", "f[x]")):
            self.told(one, other, value, None)

    def test_patterns_layers_and_parents_do_not_matter(self):
        one = box_of(bind("a", "f[T]", "plain b", "all b"), bind("b"), wrap("w", "f[T]"))
        for other in (
            box_of(bind("a", "f[x]", "plain b", "all b"), bind("b"), wrap("w", "f[T]")),
            box_of(bind("a", "f[S]", "plain b", "all b"), bind("b"), wrap("w", "f[x]")),
            layers_of([bind("b")], [wrap("w", "f[T]")], [bind("a", "f[T]", "plain b", "all b")]),
            layers_of([bind("a", "f[T]", "plain b", "all b")], [wrap("w", "f[T]")], parent=layers_of([bind("b")])),
            layers_of([bind("more"), bind("x", "f[T]#x")], parent=one),
        ):
            for value in (node("a", "f[x]", "w"), node("a", "f[x]")):
                self.told(one, other, value, None)

    def test_what_wants_give(self):
        rest = bind("b"), bind("c"), bind("d", "f[T]"), bind("e", "f[x]")
        one = box_of(bind("a", "a", "plain b", "maybe z", "all f[x]", "lazy q", "maybe c", "all z"), *rest)
        value = node("a", "a")
        for wants, right in (
            ("plain b, maybe z, all f[x], lazy q, maybe c, all z", None),
            ("maybe b, maybe z, all f[x], lazy q, plain c, all z", None),
            ("maybe b, maybe y, all f[x], lazy q, plain c, all y", None), ("plain c, maybe z, all f[x], lazy q, maybe c, all z", 0),
            ("all b, maybe z, all f[x], lazy q, maybe c, all z", 0), ("lazy b, maybe z, all f[x], lazy q, maybe c, all z", 0),
            ("plain b, all z, all f[x], lazy q, maybe c, all z", 1), ("plain b, maybe c, all f[x], lazy q, maybe c, all z", 1),
            ("plain b, maybe z, all f[y], lazy q, maybe c, all z", 2), ("plain b, maybe z, maybe f[x], lazy q, maybe c, all z", 2),
            ("plain b, maybe z, lazy f[x], lazy q, maybe c, all z", 2), ("plain b, maybe z, all f[x], lazy q#x, maybe c, all z", 3),
            ("plain b, maybe z, all f[x], maybe q, maybe c, all z", 3), ("plain b, maybe z, all f[x], lazy q, maybe y, all z", 4),
            ("plain b, maybe z, all f[x], lazy q, maybe c, maybe z", 5), ("plain b, maybe z, all f[x], lazy q, maybe c, all c", 5),
            ("plain b, maybe z, all f[x], lazy q, maybe c", 5), ("plain b, maybe z", 2), ("", 0), ("maybe z, plain b", 0),
            ("plain z, maybe z, all f[x], lazy q, maybe c, all z", 0), ("plain b, plain z, all f[x], lazy q, maybe c, all z", 1),
        ):
            other = box_of(bind("a", "a", *[want for want in wants.split(", ") if want]), *rest)
            self.told(one, other, value, None if right is None else ("wants", right))

    def test_more_wants(self):
        rest = bind("b"), bind("c")
        one = box_of(bind("a", "a", "plain b"), wrap("w", "a", "plain c"), *rest)
        other = box_of(bind("a", "a", "plain b", "maybe z"), wrap("w", "a", "plain c", "lazy z"), *rest)
        self.told(one, other, node("a", "a"), ("wants", 1))
        self.told(one, other, node("a", "a", "w"), ("wants", 2))
        third = box_of(bind("a", "a", "plain b"), wrap("w", "a", "plain b"), *rest)
        self.told(one, third, node("a", "a"), None)
        self.told(one, third, node("a", "a", "w"), ("wants", 1))

    def test_what_is_gathered(self):
        one = layers_of([bind("a", "a", "all f[x]"), bind("d", "f[T]"), bind("e", "f[x]")])
        value = node("a", "a")
        for other, right in (
            (layers_of([bind("d", "f[T]"), bind("e", "f[x]")], [bind("a", "a", "all f[x]")]), None),
            (layers_of([bind("a", "a", "all f[x]"), bind("e", "f[x]"), bind("d", "f[T]")]), ("wants", 0)),
            (layers_of([bind("a", "a", "all f[x]"), bind("d", "f[T]")]), ("wants", 0)),
            (layers_of([bind("a", "a", "all f[x]"), bind("d", "f[T]"), bind("e", "f[x]"), bind("g", "T")]), ("wants", 0)),
            (layers_of([bind("a", "a", "all f[x]"), bind("d", "f[T]"), bind("e", "f[x]"), wrap("w", "f[T]")]), ("wants", 0)),
        ):
            self.told(one, other, value, right)

    def test_lazy_wants_that_are_too_deep(self):
        one = box_of(bind("a", "f[T]", "lazy g[f[T]]"))
        deep, flat = node("a", "f[f[f[x]]]"), node("a", "f[x]")
        for text, for_deep, for_flat in (("g[f[T]]", None, None), ("h[f[T]]", None, ("wants", 0)),
            ("g[T]", ("wants", 0), ("wants", 0))):
            other = box_of(bind("a", "f[T]", f"lazy {text}"))
            self.told(one, other, deep, for_deep)
            self.told(one, other, flat, for_flat)

    def test_faults_are_otherwise_on_either_side(self):
        clash = bind("left", "p[T, y]"), bind("right", "p[y, T]")
        right = box_of(bind("a", "f[T]", "maybe z"), bind("b"))
        for text, wrong in (
            ("f[b]", box_of(bind("a", "f[T]", "plain z"), bind("b"))), ("f[b]", box_of(bind("a", "f[T]", "maybe p[y, y]"), *clash)),
            ("f[f[f[x]]]", box_of(bind("a", "f[T]", "maybe g[f[T]]"))), ("f[f[f[x]]]", box_of(bind("a", "f[T]", "all g[f[T]]"))),
        ):
            value = node("a", text)
            for one, other in ((right, wrong), (wrong, right), (wrong, wrong)):
                self.assertIs(comes_otherwise(one, other, value), True)
            self.assertIs(comes_otherwise(right, right, value), False)
            box = Box(right)
            box.ask(1, value[1])
            self.assertEqual(stale_paper(box, wrong), ((1, ("wants", 0)),))
        self.assertIs(comes_otherwise(wrong, wrong, node("a", "f[b]")), False)

    def test_nodes_of_parents_and_inner_ones(self):
        first = box_of(bind("a", "a", "plain b"), bind("b"))
        one = box_of(wrap("w", "a"), bind("fake", "b"), parent=first)
        other = box_of(wrap("w", "a"), bind("fake", "b"), bind("a", "a", "plain b"), parent=box_of(bind("b")))
        self.told(one, other, node("a", "a"), ("wants", 0))
        self.assertIs(comes_otherwise(one, other, node("a", "a", "w")), False)
        self.assertIs(comes_otherwise(other=other, one=one, node=node("b", "b")), False)

    def test_wrong_values(self):
        right, value = box_of(bind("a"), levels="app"), node("a", "a")
        for bad in OTHER_KINDS + (Container, value, Box(right)):
            self.assertTrue(field_of(self, BadContainer, comes_otherwise, bad, None, None) is bad)
            self.assertTrue(field_of(self, BadContainer, comes_otherwise, right, bad, None) is bad)
        other = box_of(bind("a"), levels="app request")
        for bad in OTHER_KINDS + (list(value), node("a", "b"), node("b", "a"), node("a", "a", "w"), value + (1,)):
            self.assertTrue(field_of(self, BadNode, comes_otherwise, right, right, bad) is bad)
            self.assertTrue(field_of(self, BadNode, comes_otherwise, right, other, bad) is bad)
        self.assertEqual(field_of(self, Unlike, comes_otherwise, right, other, value), "levels")
        self.assertEqual(field_of(self, Unlike, comes_otherwise, right, box_of(bind("a"), levels="request"), value), "levels")


class StaleTest(unittest.TestCase):
    def papers(self, box, container):
        told = stale_paper(box, container)
        before = box.log
        numbers = stale_things(box, container)
        self.assertEqual(numbers, tuple(number for number, _ in told))
        self.assertEqual(box.log, before)
        twin = box.twin()
        self.assertEqual(exchange(twin, container), numbers)
        self.assertEqual([number for number in range(1, len(box.log)) if number in numbers and twin.lives(number)], [])
        return " ".join(f"{number}:{':'.join(str(each) for each in why)}" for number, why in told)

    def test_by_holders_and_by_what_is_held_without_a_level(self):
        wants = {
            "top": ("plain mid", "plain side", "plain k"), "mid": ("plain low", "plain free"), "low": ("plain deep",), "deep": (),
            "free": ("all in",),
            "in": (), "side": ("plain k",), "k": ("plain in",), "other": ("plain low", "lazy low"),
        }

        def made(*ends):
            return box_of(*[
                bind(name, name, *row, level="app" if name == "k" else None, has_end=name in ends) for name, row in wants.items()
            ])

        box = deep_box(made(), 1)
        box.ask(2, K("top"))
        self.assertEqual([row[1:3] for row in box.log if row[0] == "made"], [
            (1, "deep"), (2, "low"), (3, "in"), (4, "free"), (5, "mid"), (6, "in"), (7, "k"), (8, "side"), (9, "top"),
        ])
        self.assertEqual(box.ask(2, K("other")), 12)
        self.assertEqual(box.ask(2, K("side")), 13)
        self.assertEqual(self.papers(box, made()), "")
        self.assertEqual(self.papers(box, made("low")),
            "1:held:2 2:end 3:held:4 4:held:5 5:holds:2 8:held:9 9:holds:5 10:held:11 11:end 12:holds:11")
        self.assertEqual(self.papers(box, made("side")), "1:held:2 2:held:5 3:held:4 4:held:5 5:held:9 8:end 9:holds:8 13:end")
        self.assertEqual(self.papers(box, made("k")),
            "1:held:2 2:held:5 3:held:4 4:held:5 5:held:9 6:held:7 7:end 8:holds:7 9:holds:7 13:holds:7")
        self.assertEqual(self.papers(box, made("other")), "10:held:11 11:held:12 12:end")
        self.assertEqual(self.papers(box, made("deep")),
            "1:end 2:holds:1 3:held:4 4:held:5 5:holds:2 8:held:9 9:holds:5 10:end 11:holds:10 12:holds:11")
        self.assertEqual(self.papers(box, made("deep", "other")),
            "1:end 2:holds:1 3:held:4 4:held:5 5:holds:2 8:held:9 9:holds:5 10:end 11:holds:10 12:end")
        self.assertEqual(self.papers(box, made("in")),
            "1:held:2 2:held:5 3:end 4:holds:3 5:holds:4 6:end 7:holds:6 8:holds:7 9:holds:5 13:holds:7")

    def test_kept_things_that_are_held_stay(self):
        def made(**settings):
            return box_of(bind("a", "a", "plain k", "all f", level="app", **settings), bind("k", level="app"),
                bind("f", "f", "plain g"), bind("g", "g", "plain k"))

        box = Box(made())
        self.assertEqual(box.ask(1, K("a")), 4)
        self.assertEqual(self.papers(box, made(has_end=True)), "2:held:3 3:held:4 4:end")
        self.assertEqual(exchange(box, made(has_end=True)), (2, 3, 4))
        self.assertEqual((box.things_in(1), box.kept_at(1, node("k", "k")), box.kept_at(1, node("a", "a"))), ((1,), 1, None))

    def test_the_least_thing_that_is_held(self):
        def made(*ends):
            names = ("x", "y", "z")
            return box_of(bind("a", "a", "all f", "plain z", "plain y"),
                *[bind(name, level="app", has_end=name in ends) for name in names],
                          bind("f1", "f", "plain y", level="app"), bind("f2", "f#x", level="app"))

        box = Box(made())
        box.ask(1, K("z"))
        self.assertEqual(box.ask(1, K("a")), 4)
        self.assertEqual(box.thing(4)[2], ((3,), 1, 2))
        self.assertEqual(self.papers(box, made("y")), "2:end 3:holds:2 4:holds:2")
        self.assertEqual(self.papers(box, made("y", "z")), "1:end 2:end 3:holds:2 4:holds:1")

    def test_scopes_do_not_matter(self):
        container = box_of(bind("k", level="app"), bind("r", "r", "plain k", level="request"), bind("n", "n", "plain r"))
        box = deep_box(container, 1, 1)
        for scope in (2, 3, 2):
            box.ask(scope, K("n"))
        other = box_of(bind("k", level="app", has_end=True), bind("r", "r", "plain k", level="request"), bind("n", "n", "plain r"))
        self.assertEqual(self.papers(box, other), "1:end 2:holds:1 3:holds:2 4:holds:1 5:holds:4 6:holds:2")
        before = len(box.log)
        self.assertEqual(exchange(box, other), (1, 2, 3, 4, 5, 6))
        self.assertEqual(box.log[before:], (("exchanged",), *[("ended", number, None) for number in (6, 5, 4, 3, 2, 1)]))
        self.assertEqual(box.scopes, (1, 2, 3))

    def test_what_was_put_away_is_not_stale(self):
        box = deep_box(box_of(bind("a")), 1)
        box.ask(2, K("a"))
        box.ask(1, K("a"))
        box.close(2)
        self.assertEqual(self.papers(box, layers_of()), "2:node")

    def test_wrong_values(self):
        container = box_of(bind("a"), levels="app")
        box = Box(container)
        other = box_of(bind("a"), levels="app request")
        for call in (stale_things, exchange, stale_paper):
            for value in OTHER_KINDS + (Box, container):
                self.assertTrue(field_of(self, BadBox, call, value, None) is value)
            for value in OTHER_KINDS + (Container, box):
                self.assertTrue(field_of(self, BadContainer, call, box, value) is value)
            self.assertEqual(field_of(self, Unlike, call, box, other), "levels")
            self.assertEqual(field_of(self, Unlike, call, Box(other), container), "levels")
            self.assertEqual(call(container=container, box=box), ())
        self.assertEqual(box.log, (("exchanged",),))


class ExchangeTest(unittest.TestCase):
    def test_order_and_rows(self):
        one = box_of(bind("a", has_end=True, bad_end=(2,)), bind("b", "b", "plain a", has_end=True), bind("k", level="app"),
            bind("c", "c", "plain k", "lazy a"))
        other = box_of(bind("a", has_end=False), bind("b", "b", "plain a", has_end=True), bind("k", level="app"),
            bind("c", "c", "plain k", "lazy a"))
        box = deep_box(one, 1)
        self.assertEqual([box.ask(2, K("b")), box.ask(1, K("c")), box.ask(1, K("b"))], [2, 4, 6])
        before = len(box.log)
        self.assertEqual(exchange(box, other), (1, 2, 5, 6))
        self.assertEqual(box.log[before:], (("exchanged",), ("ended", 6, True), ("ended", 5, True), ("ended", 2, True),
            ("ended", 1, False)))
        self.assertTrue(box.container is other)
        self.assertEqual([box.lives(number) for number in range(1, 7)], [False, False, True, True, False, False])
        self.assertEqual((box.things_in(1), box.things_in(2), box.kept_at(1, node("k", "k"))), ((3, 4), (), 3))
        self.assertEqual((box.handle_of(1), box.use(1), box.thing(7)), ((4, K("a")), 7, (node("a", "a"), 1, ())))
        self.assertEqual([box.endings_of(name) for name in "ab"], [2, 2])
        self.assertEqual(box.close(1), ())
        self.assertEqual(box.log[-5:], (("closed", 2), ("ended", 7, None), ("ended", 4, None), ("ended", 3, None), ("closed", 1)))

    def test_an_exchange_that_puts_nothing_away(self):
        container = box_of(bind("a", level="app"))
        box = Box(container)
        box.ask(1, K("a"))
        other = box_of(bind("a", level="app"), bind("b"))
        self.assertEqual(exchange(box, other), ())
        self.assertEqual((box.log[-1], box.ask(1, K("a")), box.ask(1, K("b"))), (("exchanged",), 1, 2))
        self.assertEqual(exchange(Box(container), layers_of()), ())

    def test_counts_go_on_by_names(self):
        one = box_of(bind("a", has_end=True, failing=(3,), bad_end=(1, 2)), bind("x", "x", "plain a", has_end=True))
        other = box_of(bind("a", has_end=True, failing=(2, 4), bad_end=(3,)), bind("y", "x", "plain a", has_end=True))
        box = deep_box(one, 1)
        self.assertEqual((box.ask(1, K("a")), box.ask(2, K("x"))), (1, 3))
        self.assertEqual(exchange(box, other), (2, 3))
        self.assertEqual(box.log[-2:], (("ended", 3, True), ("ended", 2, False)))
        self.assertEqual((box.ask(1, K("a")), field_of(self, Failed, box.ask, 1, K("a"))), (4, "a"))
        self.assertEqual((box.attempts_of("a"), box.attempts_of("x"), box.endings_of("a"), box.endings_of("x")), (4, 1, 1, 1))
        self.assertEqual((box.close(1), box.endings_of("a")), ((1,), 3))
        self.assertEqual(box.log[-3:], (("ended", 4, True), ("ended", 1, False), ("closed", 1)))

    def test_what_goes_ends_by_its_part_in_the_old_container(self):
        one, other = box_of(bind("a", has_end=True, bad_end=(1,))), box_of(bind("b", "a", has_end=True), bind("a", "z"))
        box = Box(one)
        box.ask(1, K("a"))
        self.assertEqual(exchange(box, other), (1,))
        self.assertEqual(box.log[-1], ("ended", 1, False))

    def test_what_stays_ends_by_its_part_in_the_new_container(self):
        one, other = box_of(bind("a", has_end=True, bad_end=(1,))), box_of(bind("a", has_end=True, bad_end=(2,)))
        box = Box(one)
        box.ask(1, K("a"))
        box.ask(1, K("a"))
        exchange(box, other)
        self.assertEqual((box.close(1), box.log[-3:]), ((1,), (("ended", 2, True), ("ended", 1, False), ("closed", 1))))

    def test_asking_behind_an_exchange(self):
        one = box_of(bind("a", "a", "plain b", level="app"), bind("b", level="app"))
        other = box_of(bind("a", "a", "plain b", level="app"), bind("b", level="app"), wrap("w", "b"))
        box = Box(one)
        box.ask(1, K("a"))
        self.assertEqual(stale_paper(box, other), ((2, ("wants", 0)),))
        self.assertEqual(exchange(box, other), (2,))
        self.assertEqual((box.ask(1, K("a")), box.thing(3), box.thing(4)),
            (4, (node("b", "b", "w"), 1, (1,)), (node("a", "a"), 1, (3,))))
        self.assertEqual(exchange(box, one), (3, 4))
        self.assertEqual((box.things_in(1), box.ask(1, K("b"))), ((1,), 1))

    def test_a_closed_box(self):
        container = box_of(bind("a"))
        box = Box(container)
        box.ask(1, K("a"))
        box.close(1)
        self.assertEqual((stale_paper(box, layers_of()), exchange(box, layers_of()), box.log[-1]), ((), (), ("exchanged",)))


if __name__ == "__main__":
    unittest.main()
