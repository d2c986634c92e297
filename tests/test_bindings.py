"""Points [20] and [21]: bindings and wrappers, for which keys they are, and what they want for them."""

import itertools
import unittest

from tests.build import aim, bind, field_of, want, wrap
from tests.values import OTHER_KINDS, THIRTEEN, Hostile, chain_of, nested
from wirebox.bindings import FORMS, Binding, Wrapper, is_for, wanted
from wirebox.errors import BadKey, BadPart, NotFor
from wirebox.patterns import read_pattern
from wirebox.terms import read_key

MAP = read_pattern("map[S, T]")
WANTS = (want("plain a"), want("maybe S"), want("all list[T]#x"), want("lazy map[T, S]"), want("plain S"), want("plain T"))
ASCENDING = tuple(range(1, 21))
FULL = {
    "name": "one", "pattern": MAP, "tag": "main", "level": "app", "wants": WANTS, "has_end": True,
    "failing": ASCENDING, "bad_end": (7, 1000),
}
LESS = {"name": "one", "pattern": MAP}
DEFAULTS = {"tag": "", "level": None, "wants": (), "has_end": False, "failing": (), "bad_end": ()}
ORDER = list(FULL)

NO_WORDS = tuple(value for value in OTHER_KINDS if not isinstance(value, str)) + (
    "", "A", "1a", "_a", "a-b", "a" * 13, "a b", "\u00e4", "a\n", ("a",), ["a"],
)
NO_WANTS = (
    None, [], list(WANTS), WANTS + (want("plain a"),), (want("plain a"),) * 7, {}, "", "plain", want("plain a"), 0, True,
    (None,), ((),), (("plain", read_pattern("a")),), (("plain", read_pattern("a"), "", ""),), (list(want("plain a")),),
    (("Plain", read_pattern("a"), ""),), (("", read_pattern("a"), ""),), ((None, read_pattern("a"), ""),),
    (("plain ", read_pattern("a"), ""),), ((("plain",), read_pattern("a"), ""),), (("wrapper", read_pattern("a"), ""),),
    (("plain", "a", ""),), (("plain", None, ""),), (("plain", THIRTEEN, ""),), (("plain", chain_of(5), ""),),
    (("plain", read_pattern("a"), None),), (("plain", read_pattern("a"), "A"),), (("plain", read_pattern("a"), 0),),
    (want("plain U"),), (want("plain a"), want("lazy map[S, U]")), (want("all A"),), WANTS[:5] + (want("maybe s[s[s[X]]]"),),
    (Hostile(),), ((Hostile(), read_pattern("a"), ""),), (("plain", Hostile(), ""),), (("plain", read_pattern("a"), Hostile()),),
    (("plain", nested(45), ""),), Hostile(),
)
NO_NUMBERS = (
    None, [], [1], {1}, "", "1", 1, True, (0,), (-1,), (1001,), (1, 1), (2, 1), (1, 2, 2), (1, 3, 2), (True,), (1, True), (False,),
    (1.0,), ("1",), (None,), tuple(range(1, 22)), tuple(range(980, 1002)), (1, 1001), (Hostile(),), Hostile(), range(1, 3), ((1,),),
)
WRONG = {
    "name": NO_WORDS,
    "pattern": OTHER_KINDS[:-4] + ("", "a", "TT", THIRTEEN, chain_of(5), nested(45), ["a", ()], Hostile(), ("a", ["T"])),
    "tag": tuple(value for value in NO_WORDS if not isinstance(value, str) or len(value) > 0),
    "level": tuple(value for value in NO_WORDS if value is not None),
    "wants": NO_WANTS,
    "has_end": (None, 0, 1, "", "True", (), [], 1.0, Hostile()),
    "failing": NO_NUMBERS,
    "bad_end": NO_NUMBERS,
}


def without_level(settings):
    return {name: value for name, value in settings.items() if name != "level"}


def made(kind, settings):
    return kind(**(settings if kind is Binding else without_level(settings)))


class PartsTest(unittest.TestCase):
    def refused(self, settings, field):
        self.assertEqual(field_of(self, BadPart, Binding, **settings), field)
        if field != "level":
            self.assertEqual(field_of(self, BadPart, Wrapper, **without_level(settings)), field)

    def test_all_settings(self):
        for kind in (Binding, Wrapper):
            for settings in (FULL, LESS):
                part = made(kind, settings)
                turned = made(kind, dict(reversed(list(settings.items()))))
                for name in ORDER if kind is Binding else without_level(FULL):
                    value = settings.get(name, DEFAULTS.get(name))
                    self.assertIs(getattr(part, name), value)
                    self.assertIs(getattr(turned, name), value)
                self.assertIs(part == turned, True)
                self.assertIs(part != turned, False)
                rest = {name: value for name, value in settings.items() if name not in ("name", "pattern", "level")}
                if settings is LESS:
                    self.assertIs(kind("one", MAP) == part, True)
                elif kind is Wrapper:
                    self.assertIs(kind("one", MAP, **rest) == part, True)

    def test_properties_stand_in_each_class(self):
        for kind, fields in ((Binding, ORDER), (Wrapper, list(without_level(FULL)))):
            for name in fields:
                self.assertIsInstance(vars(kind)[name], property)
                with self.assertRaises(AttributeError):
                    setattr(made(kind, FULL), name, FULL[name])
        self.assertFalse(hasattr(Wrapper, "level"))

    def test_what_may_be_passed_by_name_only(self):
        for kind in (Binding, Wrapper):
            for told in (("one",), ("one", MAP, ""), ("one", MAP, "", None)):
                with self.assertRaises(TypeError):
                    kind(*told)
        with self.assertRaises(TypeError):
            Wrapper("one", MAP, level="app")

    def test_settings_at_the_bounds(self):
        for settings in (
            {"name": "a" * 12}, {"name": "a_0"}, {"pattern": "T"}, {"pattern": chain_of(4)}, {"tag": "a" * 12}, {"level": "z" * 12},
            {"wants": (WANTS[0],) * 6}, {"wants": (("lazy", chain_of(4), "x"),)}, {"has_end": False}, {"failing": (1000,)},
            {"failing": tuple(range(981, 1001))}, {"failing": (1,)}, {"has_end": True, "bad_end": ASCENDING},
            {"has_end": True, "bad_end": ()}, {"has_end": True, "bad_end": (1, 1000)},
        ):
            for kind in (Binding, Wrapper):
                part = made(kind, {**LESS, **settings})
                for name, value in settings.items():
                    if name != "level" or kind is Binding:
                        self.assertEqual(getattr(part, name), value)

    def test_one_wrong_setting(self):
        for field, values in WRONG.items():
            for value in values:
                settings = {**FULL, "wants": ()} if field == "pattern" else FULL
                self.refused({**settings, field: value}, field)
                self.refused({**LESS, field: value}, field)

    def test_several_wrong_settings(self):
        for first, second in itertools.combinations(ORDER, 2):
            for one in WRONG[first][:40:9]:
                for other in WRONG[second][:40:9]:
                    self.refused({**FULL, second: other, first: one}, first)
        self.refused({field: values[0] for field, values in WRONG.items()}, "name")

    def test_wrong_values_of_one_kind_alone_are_told_for_its_own(self):
        self.assertEqual(field_of(self, BadPart, Binding, "one", "T", level="A", wants=None), "level")
        self.assertEqual(field_of(self, BadPart, Wrapper, "one", "T", wants=None, has_end=None), "wants")

    def test_variables_of_wants(self):
        for text, pattern, right in (
            ("plain T", "T", True), ("plain S", "T", False), ("lazy a", "b", True), ("all T", "b", False),
            ("maybe p[T, S]", "f[S, g[T]]", True), ("maybe p[T, R]", "f[S, g[T]]", False),
        ):
            settings = {"name": "one", "pattern": read_pattern(pattern), "wants": (want(text),)}
            if right:
                self.assertEqual(Binding(**settings).wants, (want(text),))
            else:
                self.refused(settings, "wants")

    def test_bad_end_needs_an_end(self):
        self.refused({**LESS, "bad_end": (1,)}, "bad_end")
        self.refused({**LESS, "has_end": False, "bad_end": ASCENDING}, "bad_end")
        self.refused({**LESS, "failing": (0,), "bad_end": (1,)}, "failing")
        self.assertEqual(Binding(**LESS, has_end=False, bad_end=()).bad_end, ())

    def test_equality(self):
        others = {
            "name": "two", "pattern": read_pattern("map[T, S]"), "tag": "", "level": "request", "wants": WANTS[:5],
            "has_end": False,
            "failing": (), "bad_end": (7,),
        }
        for kind in (Binding, Wrapper):
            part = made(kind, FULL)
            self.assertIs(part == made(kind, dict(FULL)), True)
            for field, value in others.items():
                if field == "level" and kind is Wrapper:
                    continue
                settings = {**FULL, field: value}
                if field == "has_end":
                    settings["bad_end"] = ()
                    self.assertIs(made(kind, {**FULL, "bad_end": ()}) == made(kind, settings), False)
                self.assertIs(part == made(kind, settings), False, field)
                self.assertIs(part != made(kind, settings), True, field)
            for value in OTHER_KINDS[:-5]:
                self.assertIs(part == value, False)
        self.assertIs(made(Binding, LESS) == made(Wrapper, LESS), False)
        self.assertIs(made(Wrapper, LESS) == made(Binding, LESS), False)
        self.assertIs(made(Wrapper, LESS) != made(Binding, LESS), True)

    def test_forms(self):
        self.assertEqual(FORMS, ("plain", "maybe", "all", "lazy"))


class ForTest(unittest.TestCase):
    def test_for_which_keys(self):
        for text, key, right in (
            ("list[T]", "list[a]", True), ("list[T]", "list[list[a]]", True), ("list[T]", "list", False), ("list[T]", "a", False),
            ("list[T]", "list[a]#x", False), ("list[T]#x", "list[a]#x", True), ("list[T]#x", "list[a]", False),
            ("list[T]#x", "list[a]#y", False), ("T", "pair[a, b]", True), ("pair[T, T]", "pair[a, a]", True),
            ("pair[T, T]", "pair[a, b]", False), ("pair[T, T]", "pair[f[a], f[a]]", True),
            ("pair[T, T]", "pair[f[a], f[b]]", False),
            ("a", "a", True), ("a", "b", False), ("a", "a[b]", False),
        ):
            for part in (bind("one", text), wrap("one", text)):
                self.assertIs(is_for(part, read_key(key)), right, (text, key))
                self.assertIs(is_for(key=read_key(key), part=part), right)

    def test_what_is_wanted(self):
        settings = ("map[S, T]#x", "plain a", "maybe S", "all list[T]#y", "lazy map[T, S]", "plain S#x")
        for part in (bind("one", *settings), wrap("one", *settings)):
            found = wanted(part, read_key("map[f[b], c]#x"))
            self.assertEqual(found, (
                ("plain", read_key("a")), ("maybe", read_key("f[b]")), ("all", read_key("list[c]#y")),
                ("lazy", read_key("map[c, f[b]]")), ("plain", read_key("f[b]#x")),
            ))
            self.assertEqual(wanted(key=read_key("map[f[b], c]#x"), part=part), found)
        self.assertEqual(wanted(bind("one", "a"), read_key("a")), ())
        part = bind("one", "pair[T, T]", "plain p[T, T]")
        self.assertEqual(wanted(part, read_key("pair[f[a], f[a]]")), (("plain", read_key("p[f[a], f[a]]")),))

    def test_what_is_too_deep(self):
        part = bind("one", "f[T]", "plain g[T]", "lazy a[b[T]]", "maybe T", "all p[T, T, T]", "plain a[T]#x")
        self.assertEqual(wanted(part, read_key("f[a[b[c]]]")), (
            ("plain", read_key("g[a[b[c]]]")), ("lazy", None), ("maybe", read_key("a[b[c]]")),
            ("all", read_key("p[a[b[c]], a[b[c]], a[b[c]]]")), ("plain", read_key("a[a[b[c]]]#x")),
        ))
        self.assertEqual([key is None for _, key in wanted(part, read_key("f[a[b, c, d]]"))], [False, False, False, True, False])
        part = bind("one", "f[S, T]", "plain f[S, S, T]", "plain f[S, T, T]", "lazy f[S, S, S]")
        found = wanted(part, read_key("f[a[b, b, b], a[b, b]]"))
        self.assertEqual([key is None for _, key in found], [False, False, True])
        found = wanted(part, read_key("f[a[b, b, b], a[b, b, b]]"))
        self.assertEqual(found, (("plain", None), ("plain", None), ("lazy", None)))

    def test_keys_for_which_the_part_is_not(self):
        for part, text in ((bind("one", "f[T]", "plain T"), "f"), (wrap("one", "f[T]"), "f[a]#x"), (bind("one", "f[T]#x"), "f[a]")):
            self.assertEqual(field_of(self, NotFor, wanted, part, read_key(text)), read_key(text))

    def test_wrong_values(self):
        keys = OTHER_KINDS + ("a", ("a", ()), (("a", ()),), (("a", ()), "A"), (("a", ()), None), [("a", ()), ""], ("T", ""))
        for call in (is_for, wanted):
            for value in OTHER_KINDS + (Binding, Wrapper, ("one", "T")):
                self.assertEqual(field_of(self, BadPart, call, value, read_key("a")), "part")
                self.assertEqual(field_of(self, BadPart, call, value, None), "part")
            for value in keys:
                for part in (bind("one", "T"), wrap("one", "b")):
                    self.assertTrue(field_of(self, BadKey, call, part, value) is value)

    def test_nothing_is_changed(self):
        pattern, tag = aim("f[T]#x")
        wants = (want("plain T"),)
        part = Binding("one", pattern, tag=tag, wants=wants)
        for _ in range(2):
            self.assertEqual(wanted(part, read_key("f[a]#x")), (("plain", read_key("a")),))
        self.assertEqual(part, Binding("one", pattern, tag=tag, wants=wants))


if __name__ == "__main__":
    unittest.main()
