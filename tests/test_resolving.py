"""Points [32] and [33]: what resolving reaches and raises, and counts."""

import sys
import unittest

from tests.build import bind, box_of, field_of, keys, layers_of, texts, wrap
from wirebox.boxes import Box
from wirebox.errors import Ambiguous, Captive, Missing, Ring, TooDeep, TooMany
from wirebox.nodes import count_of, resolved
from wirebox.terms import read_key

DIGITS = "zot"


def node(name, text, *wrappers):
    return (name, read_key(text), wrappers)


def reached(container, text, level="request"):
    """The names and keys that are reached, written short."""
    return " ".join("/".join((name, *wrappers)) + ":" + texts([key]) for name, key,
        wrappers in resolved(container, read_key(text), level))


def number_text(number):
    """The text of the key for a number from 0 to 728."""
    digits = [DIGITS[number // 3 ** place % 3] for place in range(5, -1, -1)]
    return f"n[p[{digits[0]}, {digits[1]}, {digits[2]}], p[{digits[3]}, {digits[4]}, {digits[5]}]]"


def counting(*at_the_end, twice=False):
    """Bindings by which the key of each number wants that of the next one; what the last one, 728, wants is told."""
    found = [bind("last", number_text(728), *at_the_end)]
    for place in range(6):
        for digit in (0, 1):
            higher = list("ABCDEF"[:5 - place])
            one, other = higher + [DIGITS[digit]] + ["t"] * place, higher + [DIGITS[digit + 1]] + ["z"] * place
            shapes = [f"n[p[{row[0]}, {row[1]}, {row[2]}], p[{row[3]}, {row[4]}, {row[5]}]]" for row in (one, other)]
            found.append(bind(f"step{place}{digit}", shapes[0], *[f"plain {shapes[1]}"] * (2 if twice else 1)))
    return found


def summing(number, depth=0):
    """Bindings of which the first one, for the key sum, has this count; they need one for the key leaf, too."""
    name = f"sum{depth or ''}"
    half, rest = divmod(number - 1, 2)
    wants = ["plain leaf"] * rest + [f"plain sum{depth + 1}"] * (2 if half else 0)
    return [bind(name, name, *wants)] + (summing(half, depth + 1) if half else [])


class ReachedTest(unittest.TestCase):
    def test_depth_first(self):
        container = box_of(
            bind("a", "a", "plain b", "maybe c", "all f[x]", "lazy l"), bind("b", "b", "plain d"), bind("c"),
            bind("d", "d", "plain e", "plain c"),
            bind("e"), bind("f1", "f[T]", "plain e"), bind("f2", "f[x]", "plain g", "maybe nothing", "all nothing"), bind("g"),
            bind("l"),
        )
        self.assertEqual(reached(container, "a"), "a:a b:b d:d e:e c:c f1:f[x] f2:f[x] g:g")
        self.assertEqual(reached(container, "e"), "e:e")

    def test_the_inner_node_comes_first(self):
        container = box_of(
            bind("a", "a", "plain b"), bind("b"), bind("c"), wrap("v", "a", "plain c"), wrap("w", "a", "plain d"), bind("d"),
            wrap("u", "b"),
        )
        self.assertEqual(reached(container, "a"), "a/v/w:a a/v:a a:a b/u:b b:b c:c d:d")

    def test_each_node_once(self):
        container = box_of(bind("a", "a", "plain b", "plain c", "plain b"), bind("b", "b", "plain c", "all c"), bind("c"))
        self.assertEqual(reached(container, "a"), "a:a b:b c:c")
        found = resolved(container, read_key("a"), "app")
        self.assertIsInstance(found, tuple)
        self.assertEqual(found, (node("a", "a"), node("b", "b"), node("c", "c")))

    def test_lazy_wants_are_left_out(self):
        container = box_of(bind("a", "a", "lazy missing", "lazy b", "lazy a", "lazy p[x, x]"), bind("b", level="request"),
                           bind("l", "p[T, x]"), bind("r", "p[x, T]"), bind("f", "f[T]", "lazy f[f[T]]"))
        self.assertEqual(reached(container, "a", "app"), "a:a")
        self.assertEqual(reached(container, "f[f[f[x]]]", "app"), "f:f[f[f[x]]]")

    def test_parts_of_parents(self):
        first = box_of(bind("a", "a", "plain b"), bind("b"), wrap("v", "a"))
        second = box_of(bind("c", "b"), wrap("w", "T"), bind("top", "top", "plain a", "plain b"), parent=first)
        self.assertEqual(reached(second, "top"), "top/w:top top:top a/v/w:a a/v:a a:a b:b c/w:b c:b")
        self.assertEqual(reached(first, "a"), "a/v:a a:a b:b")


class FaultTest(unittest.TestCase):
    def raised(self, error, container, text, told, level="request"):
        found = field_of(self, error, resolved, container, read_key(text), level)
        self.assertEqual(texts(found) if error is not Ambiguous else found, told)
        if level == container.levels[-1]:
            self.assertEqual(field_of(self, error, count_of, container, read_key(text)), found)
        box = Box(container)
        for scope in range(1, container.levels.index(level) + 1):
            box.enter(scope)
        before = box.log
        self.assertEqual(field_of(self, error, box.ask, len(before) + 1, read_key(text)), found)
        self.assertEqual(box.log, before)

    def test_missing(self):
        container = box_of(bind("a", "a", "maybe z", "plain b"), bind("b", "b", "plain a#x"), bind("f", "f[T]", "plain T"),
            wrap("w", "a"))
        self.raised(Missing, container, "z", "z")
        self.raised(Missing, container, "a", "a b a#x")
        self.raised(Missing, container, "f[f[z]]", "f[f[z]] f[z] z")
        self.raised(Missing, box_of(bind("a"), wrap("v", "a"), wrap("w", "a", "plain z")), "a", "a z")
        self.raised(Missing, box_of(bind("a", "a", "plain z"), wrap("v", "a"), wrap("w", "a")), "a", "a z")

    def test_ambiguous(self):
        clash = bind("right", "p[a, T]"), bind("left", "p[T, a]")
        for form in ("plain", "maybe"):
            container = box_of(bind("a", "a", "plain b"), bind("b", "b", f"{form} p[a, a]"), *clash)
            self.raised(Ambiguous, container, "a", ("left", "right"))
        self.raised(Ambiguous, box_of(*clash), "p[a, a]", ("left", "right"))
        self.assertEqual(reached(box_of(bind("a", "a", "all p[a, a]"), *clash), "a"), "a:a right:p[a, a] left:p[a, a]")

    def test_too_deep(self):
        for form in ("plain", "maybe", "all"):
            container = box_of(bind("f", "f[T]", f"{form} g[f[T]]"), wrap("w", "f[T]"))
            self.raised(TooDeep, container, "f[b[b[c]]]", "f[b[b[c]]]")
            wide = box_of(bind("a", "a", "plain f[s[b, b, b], s[b, b, b]]"), bind("f", "f[S, T]", f"{form} f[S, S, T]"),
                bind("any", "T"))
            self.raised(TooDeep, wide, "f[s[b, b, b], s[b, b, b]]", "f[s[b, b, b], s[b, b, b]]")
            self.raised(TooDeep, wide, "a", "a f[s[b, b, b], s[b, b, b]]")

    def test_captive(self):
        container = box_of(
            bind("app", "app", "plain none", level="app"), bind("ses", "ses", "plain app", level="ses"),
            bind("req", "req", "plain ses", level="req"),
            bind("none", "none", "maybe deep"), bind("deep", "deep", "all req"), wrap("w", "none"), wrap("v", "req"),
            levels="app ses req",
        )
        self.raised(Captive, container, "req", "req", "app")
        self.raised(Captive, container, "req", "req", "ses")
        self.raised(Captive, container, "ses", "ses", "app")
        self.raised(Captive, container, "app", "app none deep req", "req")
        self.raised(Captive, container, "app", "app none deep req", "app")
        self.raised(Captive, container, "deep", "deep req", "ses")
        self.raised(Captive, container, "req", "req ses app none deep req", "req")
        container = box_of(bind("a", "a", "plain b", level="app"), bind("b", level="ses"), bind("c", "c", "plain b"),
            levels="app ses req")
        self.raised(Captive, container, "a", "a b", "req")
        self.raised(Captive, container, "c", "c b", "app")
        self.assertEqual(reached(container, "c", "ses"), "c:c b:b")
        self.assertEqual(reached(container, "c", "req"), "c:c b:b")

    def test_rings(self):
        container = box_of(bind("a", "a", "plain b"), bind("b", "b", "maybe c"), bind("c", "c", "all a"), bind("d", "d", "plain b"),
                           bind("s", "s", "plain s"), bind("f", "f[T]", "plain T"))
        self.raised(Ring, container, "a", "a b c a")
        self.raised(Ring, container, "d", "b c a b")
        self.raised(Ring, container, "f[d]", "b c a b")
        self.raised(Ring, container, "s", "s s")
        self.raised(Ring, container, "f[f[s]]", "s s")

    def test_a_ring_through_other_levels(self):
        container = box_of(
            bind("req", "req", "plain none", level="req"), bind("none", "none", "plain app"),
            bind("app", "app", "plain none", level="app"),
            levels="app ses req",
        )
        self.raised(Ring, container, "req", "none app none", "req")
        self.raised(Ring, container, "none", "none app none", "ses")
        self.raised(Ring, container, "app", "app none app", "app")

    def test_rings_of_wrappers(self):
        container = box_of(bind("a"), wrap("w", "a", "plain b"), bind("b", "b", "plain a"))
        self.raised(Ring, container, "a", "a b a")
        self.raised(Ring, container, "b", "b a b")
        container = box_of(bind("a", "a", "plain a"), wrap("w", "a"))
        self.raised(Ring, container, "a", "a a")
        container = box_of(bind("a"), wrap("v", "a", "plain a"), wrap("w", "a"))
        self.raised(Ring, container, "a", "a a")
        container = box_of(bind("a"), wrap("v", "a"), wrap("w", "a", "plain b"), bind("b", "b", "plain c"),
            bind("c", "c", "maybe b"))
        self.raised(Ring, container, "a", "b c b")

    def test_a_ring_from_an_inner_node(self):
        first = box_of(bind("a", "a", "plain b"), bind("b", "b", "plain a"))
        second = box_of(wrap("w", "a"), bind("c", "c", "plain a"), parent=first)
        self.raised(Ring, second, "c", "a b a")
        self.raised(Ring, second, "a", "a b a")
        third = box_of(bind("d", "d", "plain f[x]"), bind("f", "f[T]", "plain T"), bind("x", "x", "plain f[x]"), wrap("v", "f[T]"),
            wrap("u", "f[x]"))
        self.raised(Ring, third, "d", "f[x] x f[x]")

    def test_what_comes_first(self):
        clash = bind("left", "p[T, a]"), bind("right", "p[a, T]")
        parts = bind("s", "s", "plain s"), bind("r", "r", level="request"), *clash
        rows = (
            ("plain z", Missing, "{} z"), ("plain p[a, a]", Ambiguous, ("left", "right")), ("plain s", Ring, "s s"),
            ("maybe r", Captive, "{} r"),
            ("all s", Ring, "s s"), ("plain {}", Ring, "{} {}"),
        )
        for first, error, told in rows:
            for second, _, _ in rows:
                top = bind("top", "top", "lazy z", first.format("top"), second.format("top"), level="app")
                self.raised(error, box_of(top, *parts), "top", told if isinstance(told, tuple) else told.format("top", "top"))
                below = bind("below", "below", "plain ok", first.format("below"), level="app")
                top = bind("top", "top", "plain below", second.format("top"))
                path = told if isinstance(told, tuple) else told.format("below", "below")
                if isinstance(path, str) and path.startswith("below") and error is not Ring:
                    path = "top " + path
                self.raised(error, box_of(top, below, bind("ok"), *parts), "top", path)

    def test_the_inner_node_is_gone_through_ahead_of_wants(self):
        parts = bind("s", "s", "plain s"), bind("a", "a", "plain s")
        self.raised(Ring, box_of(*parts, wrap("w", "a", "plain z")), "a", "s s")
        self.raised(Missing, box_of(*parts, wrap("w", "s", "plain z"), bind("t", "t", "plain z")), "t", "t z")
        self.raised(Ring, box_of(bind("a", "a", "plain b"), bind("b", "b", "plain z"), wrap("w", "b", "plain a"),
            bind("z", "z", "plain a")), "a", "a b z a")

    def test_captive_comes_ahead_of_ring(self):
        container = box_of(bind("r", "r", "plain a", level="request"), bind("a", "a", "plain r", level="app"))
        self.raised(Captive, container, "r", "r a r")
        self.raised(Captive, container, "a", "a r")

    def test_a_level_decides_for_what_is_behind_it(self):
        container = box_of(bind("top", "top", "plain mid", "plain low"), bind("mid", "mid", "plain low", level="app"),
            bind("low", "low", "plain r"),
                           bind("r", level="request"))
        self.raised(Captive, container, "top", "top mid low r")
        container = box_of(bind("top", "top", "plain low", "plain mid"), bind("mid", "mid", "plain low", level="app"),
            bind("low", "low", "plain r"),
                           bind("r", level="request"))
        self.raised(Captive, container, "top", "top mid low r")
        self.assertEqual(reached(container, "low"), "low:low r:r")


class ManyNodesTest(unittest.TestCase):
    def test_five_hundred_nodes_and_one_more(self):
        container = box_of(*counting())
        self.assertLess(sys.getrecursionlimit(), 1500)
        found = resolved(container, read_key(number_text(229)), "app")
        self.assertEqual(len(found), 500)
        self.assertEqual([texts([each[1]]) for each in found], [number_text(number) for number in range(229, 729)])
        self.assertEqual(count_of(container, read_key(number_text(229))), 500)
        for number in (228, 227, 0):
            self.assertEqual(field_of(self, TooMany, resolved, container, read_key(number_text(number)), "app"), 500)
            self.assertEqual(field_of(self, TooMany, count_of, container, read_key(number_text(number))), 500)
            box = Box(container)
            self.assertEqual(field_of(self, TooMany, box.ask, 1, read_key(number_text(number))), 500)
            self.assertEqual(box.log, ())

    def test_inner_nodes_count(self):
        container = box_of(*counting(), wrap("w", number_text(400)))
        self.assertEqual(field_of(self, TooMany, resolved, container, read_key(number_text(229)), "app"), 500)
        self.assertEqual(len(resolved(container, read_key(number_text(230)), "app")), 500)

    def test_what_comes_ahead_of_too_many_nodes(self):
        for wants, error, start, told in (
            (("plain q",), Missing, 229, None), (("plain q",), TooMany, 228, 500), (("plain ok", "plain q"), TooMany, 229, 500),
            ((f"plain {number_text(400)}",), Ring, 229, None), ((f"plain {number_text(728)}",), Ring, 229, None),
            (("plain late",), Captive, 229, None),
            (("plain late",), Captive, 100, 500),
        ):
            container = box_of(*counting(*wants), bind("ok"), bind("late", level="request"))
            if told is None:
                keys = field_of(self, error, resolved, container, read_key(number_text(start)), "app")
                first = 400 if wants[0].endswith(number_text(400)) else 728 if error is Ring else start
                self.assertEqual([texts([key]) for key in keys[:729 - first]],
                    [number_text(number) for number in range(first, 729)])
            else:
                self.assertEqual(field_of(self, TooMany, resolved, container, read_key(number_text(start)), "app"), 500)
        container = box_of(bind("top", "top", f"plain {number_text(0)}", "plain q"), *counting())
        self.assertEqual(field_of(self, TooMany, resolved, container, read_key("top"), "app"), 500)
        container = box_of(bind("top", "top", "plain q", f"plain {number_text(0)}"), *counting())
        self.assertEqual(texts(field_of(self, Missing, resolved, container, read_key("top"), "app")), "top q")

    def test_what_was_reached_before_is_no_new_one(self):
        container = box_of(bind("top", "top", f"plain {number_text(231)}", f"plain {number_text(500)}", "plain x"), *counting(),
            bind("x", "x", "plain y"))
        self.assertEqual(texts(field_of(self, Missing, resolved, container, read_key("top"), "app")), "top x y")
        container = box_of(bind("top", "top", f"plain {number_text(230)}", f"plain {number_text(500)}", "plain x"), *counting(),
            bind("x"))
        self.assertEqual(field_of(self, TooMany, resolved, container, read_key("top"), "app"), 500)


class CountTest(unittest.TestCase):
    def count(self, container, text):
        return count_of(container, read_key(text))

    def test_nodes_without_a_level_are_counted_by_ways(self):
        for many in (1, 2, 5, 10):
            chain = [bind(f"x{number}", f"x{number}", *[f"plain x{number + 1}"] * 2) for number in range(1,
                many)] + [bind(f"x{many}")]
            self.assertEqual(self.count(box_of(*chain), "x1"), 2 ** many - 1)

    def test_nodes_with_a_level_are_counted_once(self):
        container = box_of(
            bind("top", "top", "plain kept", "plain kept", "plain free", "plain free"),
            bind("kept", "kept", "plain free", "all free", level="app"),
            bind("free", "free", "maybe other", "plain leaf"), bind("other", level="request"), bind("leaf"),
        )
        self.assertEqual(self.count(container, "leaf"), 1)
        self.assertEqual(self.count(container, "other"), 1)
        self.assertEqual(self.count(container, "free"), 3)
        container = box_of(
            bind("top", "top", "plain kept", "plain kept", "plain free", "plain free"),
            bind("kept", "kept", "plain free", "all free", level="app"),
            bind("free", "free", "maybe other", "plain leaf"), bind("other", level="app"), bind("leaf"),
        )
        self.assertEqual(self.count(container, "free"), 3)
        self.assertEqual(self.count(container, "kept"), 6)
        self.assertEqual(self.count(container, "top"), 11)

    def test_wrapped_nodes(self):
        container = box_of(bind("a", "a", "plain b", level="app"), bind("b"), wrap("v", "a", "plain b"), wrap("w", "a", "plain a2"),
            bind("a2", "a2", "plain b"), wrap("u", "b"))
        self.assertEqual(self.count(container, "b"), 2)
        self.assertEqual(self.count(container, "a"), 1 + 2 + 1 + 2 + 1 + 3)

    def test_lazy_wants_and_nothing_count_for_nothing(self):
        container = box_of(bind("a", "a", "lazy b", "maybe z", "all z", "all b"), bind("b", "b", "lazy a"))
        self.assertEqual(self.count(container, "a"), 2)

    def test_as_resolved_at_the_last_level(self):
        container = box_of(bind("a", "a", "plain r"), bind("r", level="request"))
        self.assertEqual(self.count(container, "a"), 2)
        self.assertEqual(texts(field_of(self, Captive, resolved, container, read_key("a"), "app")), "a r")

    def test_large_counts(self):
        for number in (1, 2, 3, 4, 17, 499, 500, 501, 1023, 10 ** 6, 10 ** 12 - 1, 10 ** 12):
            container = box_of(*summing(number), bind("leaf"))
            self.assertEqual(self.count(container, "sum"), number)
        for number in (10 ** 12 + 1, 10 ** 12 + 2, 2 ** 50, 3 * 10 ** 15):
            container = box_of(*summing(number), bind("leaf"))
            self.assertEqual(field_of(self, TooMany, count_of, container, read_key("sum")), 10 ** 12)
        container = box_of(*counting(twice=True))
        self.assertEqual(field_of(self, TooMany, count_of, container, read_key(number_text(229))), 10 ** 12)
        self.assertEqual(self.count(container, number_text(728 - 38)), 2 ** 39 - 1)

    def test_large_parts_of_a_sum(self):
        container = box_of(
            bind("top", "top", "plain one", "plain two"), bind("one", "one", "plain sum", level="app"),
            bind("two", "two", "plain sum", level="app"),
            *summing(5 * 10 ** 11 - 1), bind("leaf"),
        )
        self.assertEqual(field_of(self, TooMany, count_of, container, read_key("top")), 10 ** 12)
        self.assertEqual(self.count(container, "one"), 5 * 10 ** 11)
        container = box_of(
            bind("top", "top", "plain one", level="app"), bind("one", "one", "plain sum", level="app"), *summing(10 ** 12 - 2),
            bind("leaf"),
        )
        self.assertEqual(self.count(container, "top"), 10 ** 12)

    def test_asking_for_five_hundred_and_more(self):
        box = Box(box_of(*summing(500), bind("leaf")))
        self.assertEqual(box.ask(1, read_key("sum")), 500)
        for number in (501, 502, 1023, 10 ** 6, 10 ** 13):
            box = Box(box_of(*summing(number), bind("leaf"), levels="one"))
            self.assertEqual(field_of(self, TooMany, box.ask, 1, read_key("sum")), 500)
            self.assertEqual(box.log, ())

    def test_too_large_a_count_comes_behind_all_else(self):
        parts = summing(501) + [bind("leaf")]
        for second, error, told in (("plain z", Missing, "top z"), ("plain top", Ring, "top top"),
            ("plain late", Captive, "top late")):
            box = Box(box_of(bind("top", "top", "plain sum", second), bind("late", level="request"), *parts))
            self.assertEqual(texts(field_of(self, error, box.ask, 1, read_key("top"))), told)
        box = Box(box_of(bind("top", "top", "lazy z", "plain sum"), *parts))
        self.assertEqual(field_of(self, TooMany, box.ask, 1, read_key("top")), 500)

    def test_counts_of_keys_with_levels_at_all_places(self):
        self.assertEqual(texts(keys("a b#x")), "a b#x")
        container = layers_of([bind("a", "a", "plain b", level="app")], [bind("b", "b", "plain c")],
            [bind("c", "c", "plain d", level="app"), bind("d")])
        self.assertEqual([self.count(container, text) for text in "abcd"], [4, 3, 2, 1])


if __name__ == "__main__":
    unittest.main()
