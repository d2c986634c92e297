"""Points [50] to [54]: roots, the check ahead, and which row it tells."""

import unittest

from tests.ahead import goes_wrong, slow_check
from tests.build import bind, box_of, field_of, layers_of, wrap
from tests.test_resolving import counting, number_text, summing
from tests.values import OTHER_KINDS, THIRTEEN, Hostile, chain_of
from tests.worlds import GROUND, LEVELS, World
from wirebox.boxes import Box
from wirebox.checking import are_roots, check
from wirebox.containers import Container
from wirebox.errors import BadContainer, BadRoots, BoxError, TooMany
from wirebox.rows import bare, play
from wirebox.terms import read_key

K = read_key
GOOD = (K("a"), "app")
NO_ROOTS = OTHER_KINDS + (
    (K("a"),), (K("a"), "app", 1), [K("a"), "app"], (K("a"), "session"), (K("a"), ""), (K("a"), None), (K("a"), 0), (K("a"), ["app"]),
    (K("a"), Hostile()), (Hostile(), "app"), ("a", "app"), (("a", ()), "app"), ((chain_of(5), ""), "app"), ((THIRTEEN, ""), "app"),
    (("T", ""), "app"), ((("a", ()), "A"), "app"), "app", K("a"), (("a", ()), ""),
)


def roots(text):
    """Roots of a text such as "a app, f[x] request"."""
    return tuple((K(each.rpartition(" ")[0]), each.rpartition(" ")[2]) for each in text.split("; "))


class RootsTest(unittest.TestCase):
    def test_roots(self):
        container = layers_of()
        for value in ((GOOD,), (GOOD,) * 20, ((K("f[x]#y"), "request"), GOOD, GOOD)):
            self.assertIs(are_roots(container, value), True)
        self.assertIs(are_roots(value=(GOOD,), container=layers_of(levels="app")), True)
        self.assertIs(are_roots(layers_of(levels="a b c d e"), ((K("a"), "e"),)), True)

    def test_what_is_none(self):
        container = layers_of()
        for value in OTHER_KINDS + ((), (GOOD,) * 21, (None,) * 21, [GOOD], GOOD[:1] * 21, "a"):
            if not isinstance(value, tuple) or len(value) in (0, 21):
                self.assertIs(are_roots(container, value), False)
                self.assertIsNone(field_of(self, BadRoots, check, container, value))
        for value in NO_ROOTS:
            for many in (0, 1, 3):
                row = (GOOD,) * many + (value,) + (GOOD, None)
                self.assertIs(are_roots(container, row), False)
                self.assertEqual(field_of(self, BadRoots, check, container, row), many)
                self.assertEqual(field_of(self, BadRoots, check, box_of(bind("a", "a", "plain z")), row), many)
        self.assertIs(are_roots(layers_of(levels="request"), (GOOD,)), False)

    def test_bad_containers(self):
        for value in OTHER_KINDS + (Container, (layers_of(),), "a"):
            for row in ((GOOD,), (), None, (None,)):
                self.assertTrue(field_of(self, BadContainer, are_roots, value, row) is value)
                self.assertTrue(field_of(self, BadContainer, check, value, row) is value)


class CheckTest(unittest.TestCase):
    def told(self, container, text, word, told, *commands):
        """Whether this is what the check tells, and what a box does."""
        row = tuple(commands)
        self.assertEqual(check(container, roots(text)), (word, told, row))
        log, stop = play(bare(container), row)
        self.assertEqual(stop, (len(row) - 1, word, told))
        self.assertEqual(slow_check(container, roots(text)), (word, told, row))

    def test_nothing_to_tell(self):
        container = box_of(bind("a", "a", "lazy b", "all z", "maybe z"), bind("b", "b", "lazy a", "plain c"), bind("c", level="app"))
        for text in ("a app", "a request; b app", "c request"):
            self.assertIsNone(check(container, roots(text)))
        self.assertIsNone(check(roots=(GOOD,), container=container))

    def test_every_word(self):
        container = box_of(
            bind("a", "a", "plain b"), bind("b", "b", "plain z"), bind("l", "p[T, x]"), bind("r", "p[x, T]"),
            bind("far", level="request"), bind("c", "c", "plain far"), bind("ring", "ring", "plain back"),
            bind("back", "back", "maybe ring"), bind("deep", "d[T]", "plain d[d[T]]"), *summing(501), bind("leaf"),
            bind("e", "e", "all p[x, x]", "plain p[x, x]"),
        )
        ask = {text: ("ask", 1, K(text)) for text in ("z", "a", "p[x, x]", "c", "ring", "d[x]", "d[d[x]]", "sum", "e")}
        for text, word, told in (
            ("z", "Missing", (K("z"),)), ("a", "Missing", (K("a"), K("b"), K("z"))), ("p[x, x]", "Ambiguous", ("l", "r")),
            ("e", "Ambiguous", ("l", "r")), ("c", "Captive", (K("c"), K("far"))),
            ("ring", "Ring", (K("ring"), K("back"), K("ring"))), ("d[d[x]]", "TooDeep", (K("d[d[x]]"), K("d[d[d[x]]]"))),
            ("d[x]", "TooDeep", (K("d[x]"), K("d[d[x]]"), K("d[d[d[x]]]"))), ("sum", "TooMany", 500),
        ):
            self.told(container, f"{text} app", word, told, ask[text])
            self.told(container, f"far request; {text} app", word, told, ask[text])
        self.assertIsNone(check(container, roots("c request")))
        row = ("ask", 1, K(number_text(228)))
        self.assertEqual(check(box_of(*counting()), roots(f"{number_text(229)} app; {number_text(228)} app")), ("TooMany", 500, (row,)))

    def test_behind_handles(self):
        container = box_of(
            bind("a", "a", "lazy b", "lazy c"), bind("b", "b", "lazy far", level="app"), bind("far", level="request"),
            bind("c", "c", "lazy d[d[x]]"), bind("d", "d[T]", "lazy d[d[T]]"), bind("k", level="request"),
        )
        self.told(container, "a app", "Captive", (K("far"),), ("ask", 1, K("a")), ("use", 1), ("use", 3))
        self.told(container, "a request", "Captive", (K("far"),), ("enter", 1), ("ask", 2, K("a")), ("use", 1), ("use", 3))
        self.told(container, "c app", "TooDeep", (K("d[d[d[x]]]"),), ("ask", 1, K("c")), ("use", 1), ("use", 2), ("use", 3))
        self.told(container, "c app; a app", "Captive", (K("far"),), ("ask", 1, K("a")), ("use", 1), ("use", 3))

    def test_levels_and_scopes_of_the_row(self):
        container = box_of(bind("a", "a", "lazy z", level="session"), bind("b", "b", "plain a", level="request"), levels="app session request")
        self.told(container, "b request", "Missing", (K("z"),), ("enter", 1), ("enter", 2), ("ask", 3, K("b")), ("use", 1))
        self.told(container, "b session", "Captive", (K("b"),), ("enter", 1), ("ask", 2, K("b")))
        self.told(container, "b request; a session", "Missing", (K("z"),), ("enter", 1), ("ask", 2, K("a")), ("use", 1))
        self.told(container, "b request; a app", "Captive", (K("a"),), ("ask", 1, K("a")))

    def test_failing_and_bad_endings_count_as_none(self):
        container = box_of(bind("a", "a", "lazy b", failing=(1, 2, 3), has_end=True, bad_end=(1,)), bind("b", "b", "plain z"))
        self.assertEqual(check(container, roots("a app")), ("Missing", (K("b"), K("z")), (("ask", 1, K("a")), ("use", 1))))
        self.assertIsNone(check(box_of(bind("a", failing=(1,))), roots("a app")))

    def test_of_rows_as_short_roots_come_first(self):
        container = box_of(bind("a", "a", "lazy y"), bind("b", "b", "lazy z"), bind("k", level="request"))
        ask = {text: ("ask", 1, K(text)) for text in "abyz"}
        self.told(container, "a app; b app", "Missing", (K("y"),), ask["a"], ("use", 1))
        self.told(container, "b app; a app", "Missing", (K("z"),), ask["b"], ("use", 1))
        self.told(container, "y app; z app", "Missing", (K("y"),), ask["y"])
        self.told(container, "z app; y app", "Missing", (K("z"),), ask["z"])
        # The asking of a root of the next level costs as much as the use of a handle.
        self.told(container, "a app; z request", "Missing", (K("z"),), ("enter", 1), ("ask", 2, K("z")))
        self.told(container, "z request; a app", "Missing", (K("z"),), ("enter", 1), ("ask", 2, K("z")))
        self.told(container, "z request; k app", "Captive", (K("k"),), ("ask", 1, K("k")))

    def test_then_the_order_of_resolving(self):
        container = box_of(
            bind("a", "a", "plain b", "lazy u", "plain c"), bind("b", "b", "plain d", "lazy v"), bind("c", "c", "lazy w"),
            bind("d", "d", "lazy x", "lazy y"), bind("ok"),
        )
        ask, rest = ("ask", 1, K("a")), (bind("u"), bind("x"), bind("y"), bind("v"), bind("w"))
        # The handles are numbered as things are made: x, y, v, w, u.
        for many, text, handle in ((0, "u", 5), (1, "v", 3), (2, "x", 1), (3, "y", 2), (4, "w", 4)):
            order = ["u", "v", "x", "y", "w"]
            parts = [part for part in rest if part.name in order[:many]]
            self.told(box_of(*container.layers[0], *parts), "a app", "Missing", (K(text),), ask, ("use", handle))

    def test_a_wrapped_node_comes_ahead_of_its_inner_one(self):
        container = box_of(bind("a", "a", "lazy x"), wrap("v", "a", "lazy y"), wrap("w", "a", "plain b", "lazy z"), bind("b", "b", "lazy u"))
        ask = ("ask", 1, K("a"))
        for known, text, handle in (((), "z", 4), (("z",), "y", 2), (("z", "y"), "x", 1), (("z", "y", "x"), "u", 3)):
            parts = [bind(name) for name in known]
            self.told(box_of(*container.layers[0], *parts), "a app", "Missing", (K(text),), ask, ("use", handle))

    def test_things_that_are_made_more_than_once(self):
        container = box_of(
            bind("a", "a", "plain n", "plain k", "plain n", level="request"), bind("k", "k", "plain n", level="app"),
            bind("n", "n", "lazy far"), bind("far", level="request"),
        )
        # Of n there are things in both scopes: in that of the request far can be asked, so only the one in k helps.
        self.told(container, "a request", "Captive", (K("far"),), ("enter", 1), ("ask", 2, K("a")), ("use", 2))
        container = box_of(
            bind("a", "a", "plain n", "plain k", "plain n", level="request"), bind("k", "k", "plain n", level="app"),
            bind("n", "n", "lazy z"), bind("b", "b", "all n", "all n", "lazy a"),
        )
        self.told(container, "a request", "Missing", (K("z"),), ("enter", 1), ("ask", 2, K("a")), ("use", 1))
        self.told(container, "b request", "Missing", (K("z"),), ("enter", 1), ("ask", 2, K("b")), ("use", 1))

    def test_handles_of_the_same_wants_in_several_scopes(self):
        levels = "app session request"
        container = box_of(
            bind("a", "a", "plain n", "plain k", level="request"), bind("k", "k", "plain j", "plain n", level="session"),
            bind("j", "j", "plain n", level="app"), bind("n", "n", "lazy m"), bind("m", "m", "lazy s"), bind("s", level="session"),
            levels=levels,
        )
        self.told(container, "a request", "Captive", (K("s"),), ("enter", 1), ("enter", 2), ("ask", 3, K("a")), ("use", 2), ("use", 4))

    def test_parents(self):
        parent = layers_of([bind("a", "a", "lazy b"), bind("b", "b", "lazy far", level="app"), bind("far", level="request")])
        child = layers_of([bind("b2", "b"), wrap("w", "a", "lazy b", "plain c"), bind("c", "c", "lazy far")], parent=parent)
        self.told(child, "a app", "Captive", (K("far"),), ("ask", 1, K("a")), ("use", 2))
        self.assertIsNone(check(child, roots("b app")))
        # The same key is looked at in the parent and in the child.
        child = layers_of([bind("b2", "b"), wrap("w", "a", "lazy b", "plain c"), bind("c")], parent=parent)
        self.told(child, "a app", "Captive", (K("far"),), ("ask", 1, K("a")), ("use", 1), ("use", 3))

    def test_what_was_looked_at_is_left_out(self):
        container = box_of(bind("a", "a", "lazy b", "lazy b", "lazy a"), bind("b", "b", "lazy a", "lazy c", "lazy c"), bind("c", "c", "lazy z"))
        self.told(container, "a app; a app", "Missing", (K("z"),), ("ask", 1, K("a")), ("use", 1), ("use", 5), ("use", 7))
        self.told(container, "b app; a app; b app", "Missing", (K("z"),), ("ask", 1, K("b")), ("use", 2), ("use", 4))

    def lines(self, *at_the_end):
        """Bindings by which the key of each number leads to that of the next one by a handle."""
        found = []
        for part in counting():
            wants = tuple(("lazy", pattern, tag) for _, pattern, tag in part.wants)
            found.append(part.__class__(part.name, part.pattern, wants=wants))
        found[0] = bind("last", number_text(728), *at_the_end)
        return found

    def test_three_hundred_askings_and_one_more(self):
        first = number_text(728 - 299)
        container = box_of(*self.lines(), bind("a"), bind("far", level="request"))
        self.assertIsNone(check(container, roots(f"{first} app")))
        self.assertEqual(field_of(self, TooMany, check, container, roots(f"{number_text(728 - 300)} app")), 300)
        self.assertEqual(field_of(self, TooMany, check, container, roots(f"{first} app; a app")), 300)
        self.assertIsNone(check(container, roots(f"{first} app; {first} app; {number_text(500)} app")))
        # One that was looked at before is none more.
        self.assertIsNone(check(box_of(*self.lines(f"lazy {first}", f"lazy {number_text(500)}")), roots(f"{first} app")))
        for want, word, told in (("z", "Missing", (K("z"),)), ("far", "Captive", (K("far"),))):
            container = box_of(*self.lines(f"lazy {want}"), bind("far", level="request"))
            found = check(container, roots(f"{number_text(728 - 298)} app"))
            self.assertEqual((found[:2], len(found[2])), ((word, told), 300))
            self.assertEqual(found[2][1:], tuple(("use", handle) for handle in range(1, 300)))
            self.assertEqual(field_of(self, TooMany, check, container, roots(f"{first} app")), 300)

    def test_three_hundred_askings_and_a_key_that_is_too_deep(self):
        last = bind("deep", "q[T]", "lazy q[q[T]]")
        container = box_of(*self.lines("lazy q[q[q[x]]]"), last)
        found = check(container, roots(f"{number_text(728 - 297)} app"))
        self.assertEqual((found[:2], len(found[2])), (("TooDeep", (K("q[q[q[x]]]"),)), 300))
        self.assertEqual(field_of(self, TooMany, check, container, roots(f"{number_text(728 - 298)} app")), 300)

    def test_rows_that_pass_the_bounds_of_boxes(self):
        parts = [part.__class__(part.name, part.pattern, wants=part.wants + bind("s", "s", "plain sum").wants) for part in self.lines()]
        parts[0] = bind("last", number_text(728), "lazy z")
        container = box_of(*parts, *summing(400), bind("leaf"))
        found = check(container, roots(f"{number_text(728 - 20)} app"))
        self.assertEqual((found[:2], len(found[2])), (("Missing", (K("z"),)), 22))
        self.assertEqual(play(container, found[2])[1][1:], ("TooMany", 2000))

    def test_against_the_document(self):
        words = {}
        for seed in range(400):
            world = World(seed, opened=25, faults=(5, 30)[seed % 2], floor=80, wants=(3, 4)[seed % 2], levels=(10, 30, 50)[seed % 3],
                          failing=(0, 50)[seed % 2])
            container, draw = world.container(), world.random
            row = tuple((K(text), draw.choice(LEVELS)) for text in draw.sample(GROUND, draw.randrange(1, 4)))
            found = check(container, row)
            self.assertEqual(found, slow_check(container, row))
            words[None if found is None else (found[0], len(found[2]) > 2)] = True
            if seed % 4 == 0:
                most = 4 if found is None else min(len(found[2]), 5)
                self.assertIs(goes_wrong(container, row, most - 1), False)
            if found is not None:
                log, stop = play(bare(container), found[2])
                self.assertEqual(stop, (len(found[2]) - 1,) + found[:2])
        self.assertTrue({None, ("TooDeep", False), ("Ambiguous", False)} <= set(words))
        self.assertTrue({(word, much) for word in ("Captive", "Missing", "Ring") for much in (True, False)} <= set(words))

    def test_none_means_that_nothing_is_refused(self):
        many = 0
        for seed in range(300):
            world = World(seed, opened=25, faults=3, floor=90, levels=30)
            container, draw = world.container(), world.random
            row = tuple((K(text), draw.choice(LEVELS)) for text in draw.sample(GROUND, 3))
            if check(container, row) is not None:
                continue
            many += 1
            box = Box(bare(container))
            for _ in range(25):
                key, level = draw.choice(row)
                scope = draw.choice((1, *box.scopes))
                handle = draw.randrange(1, 9)
                try:
                    if draw.randrange(3) == 0:
                        box.enter(scope) if draw.randrange(3) else box.close(max(scope, 2))
                    elif draw.randrange(2) and LEVELS.index(box.level_at(scope)) >= LEVELS.index(level):
                        box.ask(scope, key)
                    else:
                        box.use(handle)
                except (BoxError, ValueError) as error:
                    self.assertIn(error.__class__.__name__, ("Closed", "BadHandle", "NoLevel", "BadScope"))
        self.assertGreater(many, 30)


class FactsTest(unittest.TestCase):
    def test_some_of_the_roots_and_later_levels(self):
        many = 0
        for seed in range(400):
            world = World(seed, opened=25, faults=3, floor=90, levels=20)
            container, draw = world.container(), world.random
            row = tuple((K(text), draw.choice(LEVELS)) for text in draw.sample(GROUND, 3))
            if check(container, row) is not None:
                continue
            many += 1
            for at in range(3):
                self.assertIsNone(check(container, row[:at] + row[at + 1:]))
                self.assertIsNone(check(container, row[at:at + 1]))
                for level in LEVELS[LEVELS.index(row[at][1]):]:
                    self.assertIsNone(check(container, row[:at] + ((row[at][0], level),) + row[at + 1:]))
        self.assertGreater(many, 30)

    def test_parts_for_no_key_that_is_asked(self):
        for seed in range(100):
            world = World(seed, opened=25, faults=20, floor=80, levels=30)
            container, draw = world.container(2), world.random
            row = tuple((K(text), draw.choice(LEVELS)) for text in draw.sample(GROUND, 3))
            more = (bind("more", "new[T]", "plain newer"), wrap("other", "new[f[T]]", "plain T"), bind("tagged", "T#new", level="request"))
            parent = Container(LEVELS, container.parent.layers + (more,))
            wider = Container(LEVELS, (more[:0],) + container.layers[:1] + ((bind("last", "newest", "plain newest"),),) + container.layers[1:],
                              parent=parent)
            self.assertEqual(check(wider, row), check(container, row))


if __name__ == "__main__":
    unittest.main()
