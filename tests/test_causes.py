"""Point [73]: variants, mixtures, and least causes."""

import itertools
import unittest

from tests.build import bind, box_of, field_of, layers_of, wrap
from tests.histories import KEYS
from tests.pairs import Pairs
from tests.values import OTHER_KINDS, Hostile
from wirebox.boxes import Box
from wirebox.causes import differing, least_cause, mixture
from wirebox.containers import Container
from wirebox.errors import BadBox, BadContainer, BadNames, BadThing, BoxError, TooMany, Twice, Unlike
from wirebox.exchanges import exchange, stale_things
from wirebox.terms import read_key

K = read_key
CALLS = (differing, lambda one, other: mixture(one, other, ()), lambda one, other: least_cause(Box(one), other, 1))


class VariantsTest(unittest.TestCase):
    def test_names_that_differ(self):
        one = box_of(bind("a", "f[T]", "plain T", has_end=True, failing=(1,), bad_end=(2,), level="app"), bind("b"), wrap("w", "b"))
        a, b, w = one.layers[0]
        for parts, told in (
            ((a, b, w), ()), ((bind("a", "f[T]", "plain T", has_end=True, failing=(1,), bad_end=(2,), level="app"), b, w), ()),
            ((bind("a", "f[S]", "plain S", has_end=True, failing=(1,), bad_end=(2,), level="app"), b, w), ("a",)),
            ((bind("a", "f[T]#x", "plain T", has_end=True, failing=(1,), bad_end=(2,), level="app"), b, w), ("a",)),
            ((bind("a", "f[T]", "maybe T", has_end=True, failing=(1,), bad_end=(2,), level="app"), b, w), ("a",)),
            ((bind("a", "f[T]", "plain T", has_end=True, failing=(1, 2), bad_end=(2,), level="app"), b, w), ("a",)),
            ((bind("a", "f[T]", "plain T", has_end=True, failing=(1,), level="app"), b, w), ("a",)),
            ((bind("a", "f[T]", "plain T", failing=(1,), level="app"), b, w), ("a",)),
            ((bind("a", "f[T]", "plain T", has_end=True, failing=(1,), bad_end=(2,)), b, w), ("a",)),
            ((a, wrap("b", "b"), w), ("b",)), ((a, bind("b", level="app"), bind("w", "w")), ("b", "w")), ((a, b, wrap("w", "b", failing=(1,))), ("w",)),
            ((bind("a"), bind("b", "c"), wrap("w", "c")), ("a", "b", "w")),
        ):
            self.assertEqual(differing(one, box_of(*parts)), told)
            self.assertEqual(differing(other=one, one=box_of(*parts)), told)

    def test_the_whole_chain(self):
        def chain(first, second, third):
            parent = layers_of([bind("z", "z", *first)], [])
            child = layers_of([], [bind("y", "y", *second)], parent=parent)
            return layers_of([bind("x", "x", *third)], parent=child)

        one = chain((), (), ())
        for wants, told in ((((), (), ()), ()), ((("lazy a",), (), ()), ("z",)), (((), ("lazy a",), ("lazy a",)), ("x", "y")),
                            ((("lazy a",),) * 3, ("x", "y", "z"))):
            self.assertEqual(differing(one, chain(*wants)), told)

    def test_no_variants(self):
        one = layers_of([bind("a"), bind("b")], [bind("c")], parent=layers_of([bind("d")]))
        for other in (
            layers_of([bind("a"), bind("b")], [bind("c")]), layers_of([bind("b"), bind("a")], [bind("c")], parent=one.parent),
            layers_of([bind("a")], [bind("b"), bind("c")], parent=one.parent), layers_of([bind("a"), bind("b")], [bind("c")], [], parent=one.parent),
            layers_of([bind("a"), bind("b")], [bind("c2", "c")], parent=one.parent), layers_of([bind("a"), bind("b")], [], parent=one.parent),
            layers_of([bind("a"), bind("b")], [bind("c")], parent=layers_of([bind("d2", "d")])),
            layers_of([bind("a"), bind("b")], [bind("c")], parent=layers_of([bind("d")], [])),
            layers_of([bind("a"), bind("b")], [bind("c")], parent=layers_of([bind("d")], parent=layers_of())),
            layers_of(*one.parent.layers, parent=layers_of([bind("a"), bind("b")], [bind("c")])),
        ):
            for call in CALLS:
                self.assertEqual(field_of(self, Unlike, call, one, other), "names")
                self.assertEqual(field_of(self, Unlike, call, other, one), "names")
        for other in (layers_of(levels="app"), layers_of(levels="request app"), layers_of([bind("q")], levels="app request x")):
            for call in CALLS:
                self.assertEqual(field_of(self, Unlike, call, one, other), "levels")

    def test_ten_names_and_eleven(self):
        names = [f"n{at:02}" for at in range(12)]
        one = layers_of([bind(name) for name in names[:6]], [wrap(name, name) for name in names[6:]])
        for many in (9, 10, 11, 12):
            other = layers_of([bind(name, has_end=name in names[:many]) for name in names[:6]],
                              [wrap(name, name, has_end=name in names[:many]) for name in names[6:]])
            if many <= 10:
                self.assertEqual(differing(one, other), tuple(names[:many]))
                self.assertEqual(mixture(one, other, tuple(names[:many])), other)
            else:
                for call in CALLS:
                    self.assertEqual(field_of(self, TooMany, call, one, other), 10)
                self.assertEqual(field_of(self, TooMany, mixture, one, other, None), 10)
                self.assertEqual(field_of(self, TooMany, least_cause, Box(one), other, None), 10)


class MixtureTest(unittest.TestCase):
    def test_some_names(self):
        one = layers_of([bind("a"), bind("b", "b", "plain a")], [wrap("w", "a")], parent=layers_of([bind("c"), bind("d")]))
        other = layers_of([bind("a", has_end=True), bind("b", "x")], [wrap("w", "b", "plain a")], parent=layers_of([bind("c", level="app"), bind("d")]))
        parts = {name: (one.part(name), other.part(name)) for name in "abwcd"}
        for many in range(5):
            for names in itertools.permutations("abwc", many):
                a, b, w, c = (parts[name][name in names] for name in "abwc")
                found = mixture(one, other, names)
                self.assertEqual(found, layers_of([a, b], [w], parent=layers_of([c, parts["d"][0]])))
                self.assertEqual(mixture(names=tuple(name for name in "abwc" if name not in names), other=one, one=other), found)
        self.assertEqual((mixture(one, other, ()), mixture(one, other, ("w", "c", "b", "a"))), (one, other))

    def test_mixtures_that_cannot_be_made(self):
        one = layers_of([bind("p", "f[T]"), bind("q", "g[T]"), bind("r")], [bind("s", "s"), bind("t", "t")])
        other = layers_of([bind("p", "g[S]"), bind("q", "f[S]"), bind("r", has_end=True)], [bind("s", "t"), bind("t", "s")])
        for names, path in ((("p",), (0, 1)), (("q",), (0, 1)), (("p", "r"), (0, 1)), (("s",), (1, 1)), (("p", "q", "s"), (1, 1)),
                            (("t", "p"), (0, 1))):
            self.assertEqual(field_of(self, Twice, mixture, one, other, names), path)
        self.assertEqual(mixture(one, other, ("q", "p")).layers[0][0].pattern, ("g", ("S",)))
        parent, child = layers_of([bind("r2", "r")], parent=one), layers_of([bind("r2", "r")], parent=other)
        self.assertEqual(field_of(self, Twice, mixture, parent, child, ("t",)), (1, 1))

    def test_bad_names(self):
        one, other = box_of(bind("a"), bind("b"), bind("c")), box_of(bind("a", level="app"), bind("b", level="app"), bind("c"))
        for value in OTHER_KINDS + ([], ["a"], "a", "ab", {"a": 1}, ("a", "a"), ("c",), ("a", "c"), ("z",), ("a", None), ("a", Hostile()), (("a",),),
                                    ("A",), ("",), (True,), ("b", "a", "b"), (b"a",)):
            if not (isinstance(value, tuple) and (value == () or len(value) == 1 and isinstance(value[0], str) and value[0] == "a")):
                self.assertTrue(field_of(self, BadNames, mixture, one, other, value) is value)
        # What differs is told ahead of names, and names ahead of what cannot be made.
        self.assertEqual(field_of(self, Unlike, mixture, one, layers_of(), None), "names")
        self.assertEqual(field_of(self, BadNames, mixture, box_of(bind("p"), bind("q")), box_of(bind("p", "q"), bind("q", "p")), ("p", "z")), ("p", "z"))

    def test_bad_containers(self):
        good = layers_of()
        for call in (differing, lambda one, other: mixture(one, other, None)):
            for value in OTHER_KINDS + (Container, (good,), "a"):
                self.assertTrue(field_of(self, BadContainer, call, value, good) is value)
                self.assertTrue(field_of(self, BadContainer, call, value, None) is value)
                self.assertTrue(field_of(self, BadContainer, call, good, value) is value)


def slow_cause(box, other, number):
    """The least cause, by trying an exchange for all mixtures."""
    names = differing(box.container, other)
    for many in range(len(names) + 1):
        for chosen in itertools.combinations(names, many):
            try:
                if number in stale_things(box, mixture(box.container, other, chosen)):
                    return chosen
            except Twice:
                pass
    return None


class CausesTest(unittest.TestCase):
    def told(self, one, other, text, **causes):
        """Whether these are the causes by the names of what things are made of."""
        box = Box(one)
        box.enter(1)
        box.ask(2, K(text))
        found = {}
        for number in (*box.things_in(1), *box.things_in(2)):
            cause = least_cause(box, other, number)
            self.assertEqual(cause, slow_cause(box, other, number))
            found[box.thing(number)[0][0] + "".join(box.thing(number)[0][2])] = cause
        self.assertEqual(found, causes)
        self.assertEqual(stale_things(box, mixture(one, other, ())), ())

    def test_one_name(self):
        one = box_of(bind("a", "a", "plain b", "plain c"), bind("b", "b", "plain d", level="app"), bind("c"), bind("d", level="app"))
        other = box_of(bind("a", "a", "plain b", "plain c", failing=(7,)), bind("b", "b", "plain d", level="app"), bind("c", has_end=True),
                       bind("d", level="request"))
        self.told(one, other, "a", a=("c",), b=("d",), c=("c",), d=("d",))
        other = box_of(bind("a", "a", "plain b", "plain c", has_end=True), *one.layers[0][1:3], bind("d", failing=(1,), level="app"))
        self.told(one, other, "a", a=("a",), b=None, c=("a",), d=None)

    def test_the_least_of_several(self):
        one = box_of(bind("a", "a", "plain b", "plain c"), bind("b"), bind("c"))
        other = box_of(bind("a", "a", "plain b", "plain c"), bind("b", has_end=True), bind("c", has_end=True))
        self.told(one, other, "a", a=("b",), b=("b",), c=("b",))
        other = box_of(bind("a", "a", "plain b"), bind("b", has_end=True), bind("c", has_end=True))
        self.told(one, other, "a", a=("a",), b=("a",), c=("a",))

    def test_several_names(self):
        one = layers_of([bind("low", "T")], [bind("a", "a", "plain f[x]"), bind("x1", "f[x]"), bind("y1", "g[T]"), bind("z1", "h[x]")])
        # By itself, neither of both changes what is chosen.
        other = layers_of([bind("low", "T")], [bind("a", "a", "plain f[x]"), bind("x1", "f[T]"), bind("y1", "f[x]"), bind("z1", "h[x]")])
        self.told(one, other, "a", a=("x1", "y1"), x1=("x1", "y1"))
        one = box_of(bind("a", "a", "plain p[u, v]"), bind("best", "p[u, v]"), bind("left", "q[T]"), bind("mid", "r[T]"), bind("any", "p[S, T]"))
        other = box_of(bind("a", "a", "plain p[u, v]"), bind("best", "p[A, B]"), bind("left", "p[u, T]"), bind("mid", "p[T, v]"), bind("any", "any"))
        # Without the first name there are two alike patterns in the layer.
        self.told(one, other, "a", a=("any", "best", "left"), best=("any", "best", "left"))

    def test_names_by_which_a_mixture_cannot_be_made(self):
        one = box_of(bind("a", "a", "plain b"), bind("b"), bind("c"))
        other = box_of(bind("a", "a", "plain b"), bind("b", "c"), bind("c", "b"))
        self.told(one, other, "a", a=("b", "c"), b=("b", "c"))
        # The name that makes it otherwise can stand by itself.
        one = box_of(bind("a", "a", "plain b"), bind("b"), bind("c"), bind("d"))
        other = box_of(bind("a", "a", "maybe d"), bind("b", "c"), bind("c", "b"), bind("d"))
        self.told(one, other, "a", a=("a",), b=("a",))

    def test_wrappers_parents_and_handles(self):
        parent = layers_of([bind("a", "a", "lazy b", level="app"), bind("b")])
        one = layers_of([wrap("v", "a"), wrap("w", "a", "plain b"), bind("k", "k", "plain a")], parent=parent)
        for child, first, causes in (
            ((wrap("v", "a", has_end=True), wrap("w", "a", "plain b")), parent, {"a": None, "av": ("v",), "avw": ("v",), "b": ("v",), "k": ("v",)}),
            ((wrap("v", "x"), wrap("w", "a", "plain b")), parent,
             {"a": None, "av": ("v",), "avw": ("v",), "b": ("v",), "k": ("v",)}),
            ((wrap("v", "a"), wrap("w", "a", "plain b")), layers_of([bind("a", "a", "lazy c", level="app"), bind("b")]),
             {"a": ("a",), "av": ("a",), "avw": ("a",), "b": ("a",), "k": ("a",)}),
            ((wrap("v", "a"), wrap("w", "a", "plain b")), layers_of([bind("a", "a", "lazy b", level="app"), bind("b", has_end=True)]),
             {"a": None, "av": None, "avw": ("b",), "b": ("b",), "k": ("b",)}),
        ):
            self.told(one, layers_of([*child, bind("k", "k", "plain a")], parent=first), "k", **causes)

    def test_ten_names(self):
        names = [f"n{at}" for at in range(10)]
        for end, told in ((0, None), (1, ("n0",)), (6, ("n5",))):
            one = box_of(bind("a", "a", *[f"plain {name}" for name in names[:6]]), *[bind(name, level="app") for name in names])
            other = box_of(one.layers[0][0], *[bind(name, level="app", failing=(9,), has_end=at + 1 == end) for at, name in enumerate(names)])
            box = Box(one)
            number = box.ask(1, K("a"))
            self.assertEqual(differing(one, other), tuple(names))
            self.assertEqual(least_cause(box, other, number), told)

    def test_random_ones(self):
        sizes = {}
        for seed in range(160):
            pair = Pairs(seed, opened=30, faults=5)
            other = pair.other(pair.draw.randrange(1, 7), *(("aim",) if seed % 2 else ()))
            box = Box(pair.one)
            box.enter(1)
            box.enter(2)
            for _ in range(6):
                try:
                    box.ask(pair.draw.randrange(1, 4), pair.draw.choice(KEYS))
                except BoxError:
                    pass
            for scope in box.scopes:
                for number in box.things_in(scope):
                    cause = least_cause(box, other, number)
                    self.assertEqual(cause, slow_cause(box, other, number))
                    sizes[cause if cause is None else len(cause)] = True
        self.assertTrue({None, 1} <= set(sizes))

    def test_errors(self):
        good = box_of(bind("a", level="request"), bind("b"))
        box = Box(good)
        for value in OTHER_KINDS + (Box, good, "a", (box,)):
            for other in (good, None, layers_of()):
                self.assertTrue(field_of(self, BadBox, least_cause, value, other, 1) is value)
        for value in OTHER_KINDS + (box, (good,), "a"):
            self.assertTrue(field_of(self, BadContainer, least_cause, box, value, None) is value)
        for number in (None, 1, 2, Hostile()):
            self.assertEqual(field_of(self, Unlike, least_cause, box, layers_of(levels="x"), number), "levels")
            self.assertEqual(field_of(self, Unlike, least_cause, box, layers_of(), number), "names")
        box.enter(1)
        box.ask(2, K("a"))
        box.ask(1, K("b"))
        for value in OTHER_KINDS + (0, 3, -1, 10 ** 30, "1", (1,), [1], 1.0, Hostile()):
            if not isinstance(value, int) or isinstance(value, bool) or value not in (1, 2):
                self.assertTrue(field_of(self, BadThing, least_cause, box, good, value) is value)
        box.close(2)
        self.assertEqual(field_of(self, BadThing, least_cause, box, good, 1), 1)
        self.assertIsNone(least_cause(number=2, other=good, box=box))
        exchange(box, box_of(bind("a", level="request"), bind("b", has_end=True)))
        self.assertEqual(field_of(self, BadThing, least_cause, box, good, 2), 2)


if __name__ == "__main__":
    unittest.main()
