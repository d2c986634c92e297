"""Points [27] and [28]: keys for which two containers are apart."""

import unittest

from tests import model
from tests.build import aim, bind, box_of, field_of, layers_of, wrap
from tests.oracle import universe
from tests.test_choosing import KEYS
from tests.values import OTHER_KINDS
from tests.worlds import World
from wirebox.bindings import Binding
from wirebox.choosing import choose
from wirebox.containers import Container
from wirebox.errors import Ambiguous, BadContainer, TooLarge
from wirebox.papers import apart
from wirebox.terms import is_key

SLOTS = "ABCDEFGH"
WIDE = "m[n[A, B, C], n[D, E, F], n[G, H]]"


def outcome(container, key):
    try:
        found = choose(container, key)
    except Ambiguous as error:
        return error.names
    return None if found is None else found.name


def fixed(many, tag):
    """So many patterns, each with a word at another place: with their meets they are 2 ** many - 1."""
    found = []
    for place in range(many):
        text = WIDE.replace(SLOTS[place], "w")
        found.append(Binding(f"x{tag}{place}", aim(text)[0], tag=tag))
    return found


class ApartTest(unittest.TestCase):
    def differ(self, one, other):
        for first, second in ((one, other), (other, one)):
            key = apart(first, second)
            self.assertTrue(is_key(key), key)
            self.assertNotEqual(outcome(first, key), outcome(second, key))

    def same(self, one, other):
        self.assertIsNone(apart(one, other))
        self.assertIsNone(apart(other, one))

    def test_alike_containers(self):
        parts = bind("any", "T"), bind("list", "f[T]"), bind("left", "p[T, a]"), bind("right", "p[a, T]"), bind("x", "f[T]#x")
        one = box_of(*parts)
        self.same(one, one)
        self.same(one, box_of(*parts))
        self.same(one, box_of(*reversed(parts)))
        self.same(one, box_of(*parts, levels="one"))
        self.same(one, box_of(*parts, levels="x y z"))
        self.same(one, box_of(*parts, wrap("w", "T")))
        self.same(one, layers_of([], parts, [wrap("w", "T")]))
        self.same(one, layers_of(parent=layers_of(parts)))
        self.same(one, layers_of(parts[4:], parts[:4]))
        self.same(one, layers_of(parts, parent=layers_of([bind("old", "f[S]")])))
        self.same(layers_of(), layers_of([], parent=layers_of([wrap("w", "a")])))

    def test_other_names_of_variables_and_other_settings(self):
        one = box_of(bind("one", "p[S, T]", "plain S", level="app"), bind("two", "T#x"))
        self.same(one, box_of(bind("one", "p[A, B]", has_end=True, failing=(1,)), bind("two", "Z#x", level="request")))

    def test_other_names_of_bindings(self):
        self.differ(box_of(bind("one", "a")), box_of(bind("two", "a")))
        self.differ(box_of(bind("one", "f[T]"), bind("a")), box_of(bind("two", "f[T]"), bind("a")))

    def test_one_alone_chooses(self):
        self.differ(layers_of(), box_of(bind("a")))
        self.differ(box_of(bind("one", "f[T]")), box_of(bind("one", "f[a]")))
        self.differ(box_of(bind("one", "f[a]")), box_of(bind("one", "f[b]")))
        self.differ(box_of(bind("one", "f[T]")), box_of(bind("one", "T")))
        self.differ(box_of(bind("one", "p[S, T]")), box_of(bind("one", "p[T, T]")))

    def test_differences_in_tags_alone(self):
        one = bind("one", "f[T]")
        self.differ(box_of(one), box_of(bind("one", "f[T]#x")))
        self.differ(box_of(one), box_of(one, bind("two", "f[T]#x")))
        self.differ(box_of(bind("one", "f[T]#x")), box_of(bind("one", "f[T]#y")))

    def test_differences_in_layers(self):
        general, special = bind("general", "f[T]"), bind("special", "f[a]")
        self.differ(layers_of([general], [special]), layers_of([special], [general]))
        self.same(layers_of([general], [special]), box_of(general, special))
        self.differ(box_of(general, special), layers_of([special], [general]))

    def test_differences_in_parents_alone(self):
        top = bind("top", "f[T]")
        self.differ(layers_of([top], parent=box_of(bind("a"))), layers_of([top], parent=box_of(bind("b", "a"))))
        self.differ(layers_of([top], parent=box_of(bind("a"))), layers_of([top]))
        self.same(layers_of([top], parent=box_of(bind("a", "f[a]"))), layers_of([top], parent=box_of(bind("b", "f[S]"))))
        self.differ(
            layers_of([top], parent=layers_of(parent=box_of(bind("a")))),
            layers_of([top], parent=layers_of(parent=box_of(bind("a", "b")))),
        )

    def test_differences_in_ambiguity_alone(self):
        left, right, both = bind("left", "p[T, a]"), bind("right", "p[a, T]"), bind("both", "p[a, a]")
        self.differ(box_of(left, right), box_of(left, right, both))
        self.differ(layers_of([left], [right]), box_of(left, right))
        self.differ(box_of(left, right, bind("c", "p[T, T]")), layers_of([bind("c", "p[T, T]")], [left, right]))
        self.same(box_of(left, right), box_of(right, left))
        three = bind("one", "p[S, T]"), bind("two", "q[p[T, a], b]"), bind("three", "q[T, b]")
        self.same(box_of(*three), layers_of(three[:1] + three[2:], three[1:2]))
        four = bind("four", "q[p[b, T], S]")
        self.differ(box_of(*three, four), layers_of([four, three[0], three[2]], [three[1]]))

    def test_words_that_could_stand_for_variables(self):
        for words in (("new1", "new2"), ("a", "b", "c"), ("x1", "v1", "w1", "t"), tuple(f"new{number}" for number in range(1, 30))):
            parts = tuple(bind(f"b{number}", word) for number, word in enumerate(words))
            pairs = tuple(bind(f"p{number}", f"f[{word}]") for number, word in enumerate(words))
            self.differ(box_of(*parts, bind("any", "T")), box_of(*parts, bind("all", "T")))
            self.differ(box_of(*pairs, bind("any", "f[T]")), box_of(*pairs))
            self.same(box_of(*pairs, bind("any", "f[T]")), box_of(*reversed(pairs), bind("any", "f[S]")))
        parts = tuple(bind(f"b{number}", f"new{number}[T]") for number in range(1, 20))
        self.differ(box_of(*parts, bind("any", "T")), box_of(*parts, bind("all", "T")))
        same = bind("same", "p[T, T]"), bind("pairs", "p[S, T]")
        self.differ(box_of(*same), box_of(bind("same", "p[S, T]"), bind("pairs", "p[T, T]")))
        self.differ(box_of(same[1]), box_of(bind("pairs", "p[T, T]")))

    def test_meets_at_the_bounds(self):
        deep = bind("deep", "a[a[a[T]]]"), bind("other", "a[a[S]]")
        self.differ(box_of(*deep), layers_of(deep[:1], deep[1:]))
        beyond = bind("one", "p[T, T]"), bind("two", "p[S, a[a[S]]]")
        self.same(box_of(*beyond), layers_of(beyond[:1], beyond[1:]))
        wide = bind("one", "p[T, T]"), bind("two", "p[f[A, B, C], f[D, E, g[F, H, I]]]")
        self.same(box_of(*wide), layers_of(wide[:1], wide[1:]))
        near = bind("one", "p[T, T]"), bind("two", "p[f[A, B, C], f[D, E, g[F]]]")
        self.differ(box_of(*near), layers_of(near[:1], near[1:]))

    def test_small_containers_against_all_keys(self):
        found = {True: 0, False: 0}
        for seed in range(300):
            world = World(seed, opened=60, wants=0)
            one = world.container(1 + seed % 2)
            other = world.variant(one) if seed % 3 else world.container(1)
            if seed % 3 == 1:
                other = Container(one.levels, tuple(tuple(reversed(layer)) for layer in one.layers), parent=one.parent)
            key = apart(one, other)
            seen = [each for each in KEYS if model.chosen_names(one, each) != model.chosen_names(other, each)]
            found[key is None] += 1
            if key is None:
                self.assertEqual(seen, [])
            else:
                self.assertNotEqual(model.chosen_names(one, key), model.chosen_names(other, key))
        self.assertGreater(min(found.values()), 80)

    def test_all_of_a_few_patterns(self):
        patterns = universe((("a", 0), ("f", 1), ("p", 2)), ("S", "T"), 2)[::3]
        for one in patterns:
            for other in patterns:
                first, second = box_of(Binding("b", one)), box_of(Binding("b", other))
                if model.is_special(one, other) and model.is_special(other, one):
                    self.same(first, second)
                else:
                    self.differ(first, second)


class BoundTest(unittest.TestCase):
    def parts(self, more):
        """Parts whose patterns are, with their meets, 498 and as many more."""
        found = []
        for many, tag in ((8, ""), (7, "t"), (6, "u"), (5, "v"), (4, "w"), (3, "x")):
            found += fixed(many, tag)
        return found + [bind(f"g{number}", f"g{number}#y") for number in range(more)]

    def test_five_hundred_and_one_more(self):
        for cut in (0, 5, 20, 35):
            for more, right in ((2, True), (3, False), (5, False)):
                parts = self.parts(more)
                one, other = box_of(*parts[:cut]), box_of(*parts[cut:])
                if right:
                    key = apart(one, other)
                    self.assertNotEqual(outcome(one, key), outcome(other, key))
                else:
                    self.assertEqual(field_of(self, TooLarge, apart, one, other), 500)

    def test_parents_and_layers_count(self):
        parts = self.parts(3)
        one = layers_of(parts[:10], parts[10:12], parent=layers_of(parts[12:20], parent=layers_of(parts[20:])))
        self.assertEqual(field_of(self, TooLarge, apart, one, one), 500)
        self.assertEqual(field_of(self, TooLarge, apart, layers_of(), one), 500)
        parts = self.parts(2)
        one = layers_of(parts[:10], parts[10:12], parent=layers_of(parts[12:20], parent=layers_of(parts[20:])))
        self.assertIsNone(apart(one, one))

    def test_alike_ones_with_one_tag_count_once(self):
        parts = self.parts(2)
        letters = str.maketrans(SLOTS, SLOTS[::-1])
        renamed = []
        for part in parts[:8]:
            text = WIDE.replace(SLOTS[int(part.name[1:])], "w").translate(letters)
            renamed.append(Binding(f"z{part.name}", aim(text)[0]))
        key = apart(box_of(*parts), box_of(*renamed))
        self.assertNotEqual(outcome(box_of(*parts), key), outcome(box_of(*renamed), key))
        wrapped = [wrap(f"y{number}", f"h{number}") for number in range(20)]
        self.assertIsNone(apart(box_of(*parts, *wrapped), box_of(*parts)))

    def test_it_comes_ahead_of_any_key(self):
        parts = [bind("z", "z#z")] + self.parts(2)
        self.assertEqual(field_of(self, TooLarge, apart, box_of(*parts), box_of(bind("q", "q"))), 500)
        self.assertEqual(field_of(self, TooLarge, apart, box_of(bind("aa", "z#z")), box_of(*parts)), 500)

    def test_one_tag_alone(self):
        parts = fixed(8, "")
        more = [Binding(f"h{place}", aim(WIDE.replace(SLOTS[place], "v"))[0]) for place in range(2)]
        self.assertEqual(field_of(self, TooLarge, apart, box_of(*parts), box_of(*more)), 500)
        key = apart(box_of(*parts), box_of(*more[:1]))
        self.assertNotEqual(outcome(box_of(*parts), key), outcome(box_of(*more[:1]), key))


class WrongTest(unittest.TestCase):
    def test_the_first_value_that_is_no_container(self):
        right = box_of(bind("a"))
        for value in OTHER_KINDS + (Container, "a", right.layers, bind("a")):
            self.assertTrue(field_of(self, BadContainer, apart, value, right) is value)
            self.assertTrue(field_of(self, BadContainer, apart, right, value) is value)
            self.assertTrue(field_of(self, BadContainer, apart, value, None) is value)
        self.assertIsNone(apart(other=right, one=right))


if __name__ == "__main__":
    unittest.main()
