"""Point [45]: the calls of a log."""

import unittest

from tests.build import bind, box_of, field_of, layers_of
from tests.histories import History, do
from tests.test_audit import NO_ROWS
from tests.values import OTHER_KINDS, Hostile
from wirebox.boxes import Box
from wirebox.errors import BadLog
from wirebox.logs import calls_of
from wirebox.terms import read_key

K = read_key
CLOSINGS = ("enter",) * 8 + ("ask",) * 3 + ("use", "close", "close", "close", "exchange")


def done(containers, calls):
    """A new box behind calls."""
    box = Box(containers[0])
    used = 1
    for call in calls:
        do(box, call, containers[min(used, len(containers) - 1)])
        used += call[0] == "exchange"
    return box


def fewest(containers, log):
    """The fewest calls that have a log, found by trying all ways to close several scopes at once."""
    box, used, at = Box(containers[0]), 1, 0
    boxes = {0: (box, 1)}
    best = {0: ()}
    while at < len(log):
        if at not in best:
            at += 1
            continue
        box, used = boxes[at]
        row = log[at]
        calls = {"entered": [("enter", row[-1])], "asked": [("ask", *row[1:])], "used": [("use", *row[1:])],
                 "exchanged": [("exchange",)]}.get(row[0], [("close", scope) for scope in box.scopes])
        for call in calls:
            twin = box.twin()
            do(twin, call, containers[used] if call[0] == "exchange" else None)
            end = len(twin.log)
            if twin.log == log[:end] and (end not in best or len(best[end]) > len(best[at]) + 1):
                best[end] = best[at] + (call,)
                boxes[end] = (twin, used + (call[0] == "exchange"))
        at += 1
    return best[len(log)]


class CallsTest(unittest.TestCase):
    def closing(self, *scopes, below=(1, 1), levels="app session request"):
        """The calls for a log in which these scopes were closed, each by itself."""
        box = Box(box_of(bind("a", level="app", has_end=True), bind("b"), levels=levels))
        for above in below:
            box.enter(above)
        for scope in box.scopes:
            box.ask(scope, K("b"))
        box.ask(1, K("a"))
        for scope in scopes:
            box.close(scope)
        calls = calls_of(box.log)
        self.assertEqual(calls[:len(below)], tuple(("enter", above) for above in below))
        found = calls[2 * len(below) + 2:]
        self.assertTrue(all(call[0] == "close" for call in found))
        return tuple(call[1] for call in found)

    def test_several_scopes(self):
        self.assertEqual(self.closing(3, 2, 1), (1,))
        self.assertEqual(self.closing(2, 3, 1), (2, 1))
        self.assertEqual(self.closing(2, 3), (2, 3))
        self.assertEqual(self.closing(3, 2), (3, 2))
        self.assertEqual(self.closing(1), (1,))
        self.assertEqual(self.closing(2), (2,))
        self.assertEqual(self.closing(), ())

    def test_scopes_in_scopes(self):
        below = (1, 1, 2, 3, 3)
        for scopes, told in (
            ((6, 5, 3, 4, 2, 1), (1,)), ((5, 6, 3, 4, 2, 1), (5, 1)), ((6, 5, 4, 3, 2, 1), (6, 5, 4, 1)), ((6, 5, 3), (3,)),
            ((4, 2, 6, 5, 3, 1), (2, 1)), ((4, 6, 5, 3, 2, 1), (4, 1)), ((6, 4, 5, 3, 2, 1), (6, 4, 1)), ((6, 5, 3, 4, 2), (3, 2)),
            ((6, 5, 4), (6, 5, 4)), ((4, 2, 5, 6, 3, 1), (2, 5, 1)), ((5, 4, 6, 3, 2, 1), (5, 4, 1)),
        ):
            self.assertEqual(self.closing(*scopes, below=below), told, scopes)

    def test_scopes_that_were_closed_long_before(self):
        box = Box(layers_of(levels="app request"))
        for call in (("enter", 1), ("enter", 1), ("close", 2), ("enter", 1), ("close", 1)):
            do(box, call)
        self.assertEqual(box.log[-3:], (("closed", 4), ("closed", 3), ("closed", 1)))
        self.assertEqual(calls_of(box.log), (("enter", 1), ("enter", 1), ("close", 2), ("enter", 1), ("close", 1)))
        # Nothing tells whether a scope was closed first by itself.
        box = Box(layers_of(levels="app request"))
        for call in (("enter", 1), ("enter", 1), ("close", 3), ("close", 1)):
            do(box, call)
        self.assertEqual(calls_of(box.log), (("enter", 1), ("enter", 1), ("close", 1)))

    def test_what_stands_between_closings(self):
        container = box_of(bind("a", level="app", has_end=True), bind("f", failing=(1,)))
        for between, told in (((), (("close", 1),)), ((("ask", 1, K("a")),), None), ((("ask", 1, K("f")),), None), ((("exchange",),), None)):
            box = Box(container)
            calls = (("enter", 1), ("close", 2)) + between + (("close", 1),)
            for call in calls:
                do(box, call, container)
            self.assertEqual(calls_of(log=box.log), calls if told is None else (("enter", 1),) + told)

    def test_failing_handles_and_exchanges(self):
        one = box_of(bind("a", "a", "lazy b", level="app"), bind("b", "b", failing=(1,)))
        two = box_of(bind("a", "a", level="app"), bind("b", "b", failing=(1,)))
        box = Box(one)
        calls = (("ask", 1, K("a")), ("use", 1), ("use", 1), ("exchange",), ("ask", 1, K("a")), ("exchange",), ("close", 1))
        for call in (calls[0], ("ask", 1, K("z")), calls[1], ("enter", 7), calls[2], ("use", 9)):
            do(box, call)
        do(box, calls[3], two)
        do(box, ("use", 1))
        do(box, calls[4])
        do(box, calls[5], one)
        do(box, calls[6])
        self.assertEqual(calls_of(box.log), calls)
        self.assertEqual(done((one, two, one), calls).log, box.log)

    def test_histories(self):
        several = 0
        for seed in range(120):
            history = History(seed, steps=30, failing=(0, 40)[seed % 2], whats=CLOSINGS)
            calls = calls_of(history.log)
            self.assertEqual(done(history.containers, calls).log, history.log)
            self.assertLessEqual(len(calls), len(history.calls))
            several += len(calls) < len(history.calls)
            if seed % 3 == 0:
                self.assertEqual(calls, fewest(history.containers, history.log))
        self.assertGreater(several, 5)

    def test_calls_that_close_as_much_as_can_be(self):
        for seed in range(200):
            history = History(seed, steps=14, wants=0, whats=("enter",) * 5 + ("close", "close", "ask"))
            self.assertEqual(calls_of(history.log), fewest(history.containers, history.log))

    def test_no_logs(self):
        self.assertEqual(calls_of(()), ())
        for value in OTHER_KINDS + ([], [("closed", 1)], "closed"):
            if not isinstance(value, tuple):
                self.assertIsNone(field_of(self, BadLog, calls_of, value))
        good = (("entered", 2, 1), ("closed", 2))
        for value in NO_ROWS + (("closed", 0), ("ended", 1, 1), ("closed",), Hostile()):
            for many in range(3):
                self.assertEqual(field_of(self, BadLog, calls_of, good[:many] + (value,) + good[many:]), many)
                self.assertEqual(field_of(self, BadLog, calls_of, good[:many] + (value, value, None)), many)


if __name__ == "__main__":
    unittest.main()
