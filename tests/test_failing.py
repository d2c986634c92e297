"""Points [35] and [37]: makings that fail, and plans."""

import unittest

from tests.build import bind, box_of, field_of, layers_of, wrap
from tests.test_boxes import NO_NUMBERS, deep_box, node
from tests.values import OTHER_KINDS
from wirebox.boxes import Box
from wirebox.containers import Container
from wirebox.errors import BadBox, BadKey, BadScope, Captive, Closed, Failed, Missing, Ring, TooMany
from wirebox.plans import plan
from wirebox.terms import read_key

K = read_key


def short(rows):
    """Rows written short: made things by name and number, the rest as it is."""
    found = []
    for row in rows:
        if row[0] == "made":
            found.append(f"{row[2]}={row[1]}@{row[4]}")
        else:
            found.append(" ".join([row[0], *[str(told) for told in row[1:] if not isinstance(told, tuple)]]))
    return ", ".join(found)


class FailTest(unittest.TestCase):
    def fails(self, box, scope, text, told):
        ahead = plan(box, scope, K(text))
        before = len(box.log)
        self.assertEqual(field_of(self, Failed, box.ask, scope, K(text)), told)
        self.assertEqual(box.log[before], ("asked", scope, K(text)))
        self.assertEqual(box.log[before + 1:], ahead)
        return short(ahead)

    def test_the_example_of_the_document(self):
        parts = (
            bind("x", "x", "plain a", "plain k", "plain d"), bind("a"), bind("k", "k", "plain n", level="app"), bind("n"),
            bind("d", failing=(1,)),
        )
        box = deep_box(box_of(*parts), 1)
        self.assertEqual(self.fails(box, 2, "x", "d"), "a=1@2, n=2@1, k=3@1, failed d 2 1, ended 1 None")
        self.assertEqual((box.things_in(1), box.things_in(2)), ((2, 3), ()))
        self.assertEqual((box.lives(1), box.kept_at(1, node("k", "k")), box.thing(1)), (False, 3, (node("a", "a"), 2, ())))
        self.assertEqual(box.ask(2, K("x")), 6)
        self.assertEqual(box.thing(6)[2], (4, 3, 5))
        box = Box(box_of(*parts[2:4], wrap("w", "k", failing=(1, 3)), bind("d", failing=(1,))))
        self.assertEqual(self.fails(box, 1, "k", "w"), "n=1@1, k=2@1, failed w 1 1")
        self.assertEqual((box.things_in(1), box.kept_at(1, node("k", "k")), box.kept_at(1, node("k", "k", "w"))), ((1, 2), 2, None))
        self.assertEqual(box.ask(1, K("k")), 3)
        self.assertEqual(box.thing(3), (node("k", "k", "w"), 1, (2,)))

    def test_rows_and_attempts(self):
        box = deep_box(box_of(bind("f", "f[T]", failing=(2, 3)), wrap("w", "f[a]", failing=(1,)),
            bind("k", level="app", failing=(1,))), 1)
        self.assertEqual(field_of(self, Failed, box.ask, 2, K("f[a]")), "w")
        self.assertEqual(box.log[1:], (
            ("asked", 2, K("f[a]")), ("made", 1, "f", K("f[a]"), 2, ()), ("failed", "w", K("f[a]"), 2, 1), ("ended", 1, None),
        ))
        self.assertEqual((box.attempts_of("f"), box.attempts_of("w")), (1, 1))
        before = len(box.log)
        self.assertEqual([field_of(self, Failed, box.ask, 1, K("f[b]")), field_of(self, Failed, box.ask, 2, K("f[a]"))], ["f", "f"])
        self.assertEqual(box.log[before:], (
            ("asked", 1, K("f[b]")), ("failed", "f", K("f[b]"), 1, 2), ("asked", 2, K("f[a]")), ("failed", "f", K("f[a]"), 2, 3),
        ))
        self.assertEqual((box.ask(2, K("f[a]")), box.attempts_of("f"), box.attempts_of("w")), (3, 4, 2))
        self.assertEqual(field_of(self, Failed, box.ask, 2, K("k")), "k")
        self.assertEqual(box.log[-1], ("failed", "k", K("k"), 1, 1))
        self.assertEqual((box.ask(2, K("k")), box.ask(1, K("k")), box.attempts_of("k")), (4, 4, 2))

    def test_what_fails_gets_neither_number_nor_handles(self):
        box = Box(box_of(bind("a", "a", "lazy b", "plain b", failing=(1,)), bind("b", "b", "lazy a")))
        self.assertEqual(self.fails(box, 1, "a", "a"), "b=1@1, failed a 1 1, ended 1 None")
        self.assertEqual(box.ask(1, K("a")), 3)
        self.assertEqual((box.handle_of(1), box.handle_of(2), box.handle_of(3)), ((1, K("a")), (2, K("a")), (3, K("b"))))
        self.assertEqual(field_of(self, Closed, box.use, 1), 1)

    def test_what_kept_things_hold_stays(self):
        box = Box(box_of(
            bind("top", "top", "plain free", "plain k", "plain free", "plain bad"),
            bind("k", "k", "plain one", "all f[x]", "maybe free", level="app"),
            bind("one", "one", "plain free"), bind("free"), bind("f1", "f[T]", "plain free"), bind("f2", "f[x]"),
            bind("bad", "bad", "plain free", failing=(1,)),
        ))
        told = self.fails(box, 1, "top", "bad")
        self.assertEqual(told,
            "free=1@1, free=2@1, one=3@1, free=4@1, f1=5@1, f2=6@1, free=7@1, k=8@1, free=9@1, free=10@1, failed bad 1 1, "
                               "ended 10 None, ended 9 None, ended 1 None")
        self.assertEqual(box.things_in(1), (2, 3, 4, 5, 6, 7, 8))

    def test_kept_things_that_were_being_made(self):
        box = deep_box(box_of(
            bind("top", "top", "plain k", level="request"), bind("k", "k", "plain n", "plain j", "plain d", level="app"), bind("n"),
            bind("j", "j", "plain n", level="app"),
            bind("d", "d", "plain n", failing=(1, 3)),
        ), 1)
        self.assertEqual(self.fails(box, 2, "top", "d"), "n=1@1, n=2@1, j=3@1, n=4@1, failed d 1 1, ended 4 None, ended 1 None")
        self.assertEqual(box.things_in(1), (2, 3))
        self.assertEqual(box.ask(2, K("top")), 9)
        self.assertEqual(box.thing(8)[2], (5, 3, 7))

    def test_things_made_before_stay(self):
        box = Box(box_of(bind("a"), bind("x", "x", "plain a", "plain bad"), bind("bad", failing=(1,)),
            bind("k", "k", "plain a", level="app")))
        box.ask(1, K("a"))
        box.ask(1, K("k"))
        self.assertEqual(self.fails(box, 1, "x", "bad"), "a=4@1, failed bad 1 1, ended 4 None")
        self.assertEqual(box.things_in(1), (1, 2, 3))

    def test_endings_of_what_is_put_away(self):
        box = Box(box_of(
            bind("a", "a", has_end=True, bad_end=(2,)), bind("x", "x", "plain a", "plain b", "plain a", "plain bad"),
            bind("b", has_end=True),
            bind("bad", "bad", failing=(1, 2)), wrap("w", "b"),
        ))
        self.assertEqual(self.fails(box, 1, "x", "bad"),
            "a=1@1, b=2@1, w=3@1, a=4@1, failed bad 1 1, ended 4 True, ended 3 None, ended 2 True, ended 1 False")
        self.assertEqual([box.endings_of(name) for name in ("a", "b", "w", "x", "bad")], [2, 1, 0, 0, 0])
        self.assertEqual(self.fails(box, 1, "x", "bad").split(", ")[-4:],
            ["ended 8 True", "ended 7 None", "ended 6 True", "ended 5 True"])

    def test_things_that_were_put_away_count(self):
        box = Box(box_of(
            bind("x", "x", *["plain y"] * 5, "plain bad"), bind("y", "y", *["plain z"] * 6), bind("z", "z", *["plain a"] * 6),
            bind("a"),
            bind("bad", failing=tuple(range(1, 9))),
        ))
        for number in range(1, 9):
            self.assertEqual(field_of(self, Failed, box.ask, 1, K("x")), "bad")
            self.assertEqual(box.things_in(1), ())
        self.assertEqual(len([row for row in box.log if row[0] == "made"]), 8 * 215)
        self.assertEqual(box.ask(1, K("x")), 8 * 215 + 217)
        self.assertEqual(field_of(self, TooMany, box.ask, 1, K("x")), 2000)


class PlanTest(unittest.TestCase):
    def test_just_the_rows_that_come(self):
        container = box_of(bind("a", "f[T]", "plain b", "lazy T"), bind("b", level="app"), wrap("w", "f[T]"))
        box = deep_box(container, 1)
        key = K("f[x]")
        before = box.log
        told = plan(box, 2, key)
        self.assertEqual(told, (
            ("made", 1, "b", K("b"), 1, ()), ("made", 2, "a", key, 2, (1, ("handle", 1))), ("made", 3, "w", key, 2, (2,)),
            ("gave", 3),
        ))
        self.assertEqual(plan(key=key, scope=2, box=box), told)
        self.assertEqual((box.log, box.things_in(1), box.things_in(2), box.attempts_of("a")), (before, (), (), 0))
        self.assertEqual(box.ask(2, key), 3)
        self.assertEqual(box.log[2:], told)
        self.assertEqual(plan(box, 2, K("b")), (("gave", 1),))

    def test_a_failing_included(self):
        box = Box(box_of(bind("a", "a", "plain b", "plain c"), bind("b", has_end=True, bad_end=(1,)), bind("c", failing=(1,))))
        told = plan(box, 1, K("a"))
        self.assertEqual(told, (("made", 1, "b", K("b"), 1, ()), ("failed", "c", K("c"), 1, 1), ("ended", 1, False)))
        self.assertEqual(plan(box, 1, K("a")), told)
        self.assertEqual((box.log, box.attempts_of("c"), box.endings_of("b")), ((), 0, 0))

    def test_the_same_errors_as_asking(self):
        box = deep_box(box_of(bind("a", "a", "plain z"), bind("late", level="request"), bind("r", "r", "plain r")), 1)
        box.close(2)
        for told, error, field in (
            ((9, None), BadScope, 9), ((2, None), Closed, 2), ((1, "a"), BadKey, "a"), ((1, K("a")), Missing, (K("a"), K("z"))),
            ((1, K("late")), Captive, (K("late"),)), ((1, K("r")), Ring, (K("r"), K("r"))),
        ):
            self.assertEqual(field_of(self, error, plan, box, *told), field)
            self.assertEqual(field_of(self, error, box.ask, *told), field)

    def test_no_boxes(self):
        for value in OTHER_KINDS + (Box, Container, layers_of(), bind("a")):
            self.assertTrue(field_of(self, BadBox, plan, value, 1, K("a")) is value)
            self.assertTrue(field_of(self, BadBox, plan, value, None, None) is value)
        box = Box(layers_of())
        for value in NO_NUMBERS:
            if not isinstance(value, int) or isinstance(value, bool) or value != 1:
                self.assertTrue(field_of(self, BadScope, plan, box, value, None) is value)


if __name__ == "__main__":
    unittest.main()
