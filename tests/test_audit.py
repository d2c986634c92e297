"""Point [44]: whether a log can be one of some containers, and the due row."""

import unittest

from tests.build import bind, box_of, field_of, layers_of, wrap
from tests.histories import KEYS, History, do
from tests.machine import Machine
from tests.values import OTHER_KINDS, Hostile
from wirebox.boxes import Box
from wirebox.errors import BadContainers, BoxError, WireError
from wirebox.exchanges import exchange
from wirebox.logs import audit, is_log_row
from wirebox.terms import read_key

K = read_key
NO_ROWS = OTHER_KINDS + (("gave", True), ("gave", 1.0), ["gave", 1], ("entered", 2), (Hostile(), 1), ("closed", Hostile()))


def rows_by(machine, call, further):
    """The rows that a call puts into the log of a twin of a machine, up to the first scope that is closed, and the twin."""
    twin = machine.twin()
    try:
        if call[0] == "exchange":
            twin.exchange(further)
        else:
            getattr(twin, call[0])(*call[1:])
    except (BoxError, WireError):
        pass
    return tuple(twin.log[len(machine.log):]), twin


def calls_for(machine, row, further):
    """All calls that are worth trying for a row."""
    scopes = list(machine.scopes)
    found = [("enter", scope) for scope in scopes] + [("close", scope) for scope in scopes]
    found += [("use", handle) for handle in machine.handles]
    if row[0] == "asked":
        found.append(("ask", row[1], row[2]))
    return found + ([("exchange",)] if further is not None else [])


def slow_audit(containers, log):
    """The same as audit, by trying all calls at each place at which nothing is due."""
    machine = Machine(containers[0])
    used = 1
    at = 0
    while at < len(log):
        if not is_log_row(log[at]):
            return (at, None)
        further = containers[used] if used < len(containers) else None
        for call in calls_for(machine, log[at], further):
            rows, twin = rows_by(machine, call, further)
            if not rows or rows[0] != log[at]:
                continue
            if call[0] == "close" and rows[-1] != ("closed", call[1]):
                raise AssertionError(rows)
            if call[0] == "close" and sum(row[0] == "closed" for row in rows) > 1:
                continue
            for due in rows:
                if at == len(log) or not is_log_row(log[at]) or log[at] != due:
                    return (at, due)
                at += 1
            machine = twin
            used += call[0] == "exchange"
            break
        else:
            return (at, None)
    return None


def other_rows(history, at):
    """Rows that may be put in place of one, or ahead of it."""
    row = history.log[at]
    found = [("gave", 1), ("closed", 1), ("closed", 2), ("exchanged",), ("entered", 4, 2), ("asked", 1, KEYS[0]), ("used", 1)]
    if row[0] == "ended":
        found += [("ended", row[1], how) for how in (True, False, None)]
        found += [("ended", row[1] + step, row[2]) for step in (1, -1) if row[1] + step > 0]
    elif row[0] == "made":
        found += [row[:1] + (row[1] + 1,) + row[2:], row[:2] + ("b",) + row[3:], row[:3] + (KEYS[4],) + row[4:],
                  row[:4] + (row[4] + 1,) + row[5:], row[:5] + (row[5] + (None,),), row[:5] + (row[5][:-1],)]
    elif row[0] in ("gave", "used", "closed", "entered", "asked"):
        found += [row[:1] + (row[1] + 1,) + row[2:]] + [(row[0], row[1] - 1, *row[2:])] * (row[1] > 1)
    return found


class AuditTest(unittest.TestCase):
    def histories(self, many, **settings):
        for seed in range(many):
            yield History(seed, failing=(0, 50)[seed % 2], levels=(20, 50)[seed % 2], **settings)

    def test_whole_logs_and_all_beginnings(self):
        within = 0
        for history in self.histories(60):
            self.assertIsNone(audit(history.containers, history.log))
            for many in range(len(history.log)):
                told = None if many in history.ends else (many, history.log[many])
                within += told is not None
                self.assertEqual(audit(history.containers, history.log[:many]), told)
        self.assertGreater(within, 500)

    def test_a_row_otherwise_missing_twice_or_exchanged(self):
        kinds = set()
        for history in self.histories(10, steps=7):
            log = history.log
            for at in range(len(log)):
                logs = [log[:at] + log[at + 1:], log[:at] + log[at:at + 1] + log[at:],
                        log[:at] + log[at + 1:at + 2] + log[at:at + 1] + log[at + 2:]]
                for row in other_rows(history, at):
                    logs += [log[:at] + (row,) + log[at + 1:], log[:at] + (row,) + log[at:]]
                for other in logs[::3] if at % 2 else logs:
                    told = audit(history.containers, other)
                    kinds.add(None if told is None else told[1] is None)
                    self.assertEqual(told, slow_audit(history.containers, other), other)
                    if told is not None and told[0] <= at and at not in history.ends:
                        self.assertEqual(told, (at, log[at]))
        self.assertEqual(kinds, {None, True, False})

    def test_what_is_no_row(self):
        for history in self.histories(6, steps=8):
            for at in range(len(history.log) + 1):
                due = None if at in history.ends else history.log[at]
                for value in NO_ROWS:
                    told = audit(history.containers, history.log[:at] + (value,) + history.log[at:])
                    self.assertEqual(told, (at, due))

    def test_endings_behind_failed_and_in_front_of_closed(self):
        container = box_of(bind("top", "top", "plain a", "plain k", "plain d"), bind("a", has_end=True), bind("k", level="app",
            has_end=True), bind("d", failing=(1,)))
        box = Box(container)
        do(box, ("ask", 1, K("top")))
        log = box.log
        self.assertEqual(log[-2:], (("failed", "d", K("d"), 1, 1), ("ended", 1, True)))
        self.assertEqual(audit((container,), log[:-1]), (len(log) - 1, ("ended", 1, True)))
        self.assertEqual(audit((container,), log + (("ended", 1, True),)), (len(log), None))
        self.assertEqual(audit((container,), log + (("gave", 1),)), (len(log), None))
        self.assertEqual(audit((container,), log[:-1] + (("ended", 2, True),)), (len(log) - 1, ("ended", 1, True)))
        # The kept thing is the first one of closing.
        self.assertEqual(audit((container,), log + (("ended", 2, True),)), (len(log) + 1, ("closed", 1)))
        self.assertEqual(audit((container,), log + (("ended", 2, False),)), (len(log), None))
        self.assertEqual(audit((container,), log + (("closed", 1),)), (len(log), None))
        self.assertIsNone(audit((container,), log + (("ended", 2, True), ("closed", 1))))
        self.assertEqual(audit((container,), log + (("ended", 2, True), ("closed", 1), ("closed", 1))), (len(log) + 2, None))

    def test_scopes_may_be_closed_alone(self):
        container = box_of(bind("a", level="app"), bind("b", level="request", has_end=True))
        box = Box(container)
        for call in (("enter", 1), ("enter", 1), ("ask", 2, K("b")), ("ask", 3, K("b")), ("ask", 1, K("a"))):
            do(box, call)
        log = box.log
        one, two, three = ("ended", 1, True), ("ended", 2, True), ("ended", 3, None)
        for rows, told in (
            ((one,), (len(log) + 1, ("closed", 2))), ((one, ("closed", 2)), None), ((two, ("closed", 3)), None),
            ((one, ("closed", 2), two), (len(log) + 3, ("closed", 3))), ((one, ("closed", 2), two, ("closed", 3)), None),
            ((three,), (len(log), None)), ((one, ("closed", 2), three), (len(log) + 2, None)), ((("closed", 2),), (len(log), None)),
            ((one, ("closed", 2), two, ("closed", 3), three), (len(log) + 5, ("closed", 1))), ((one, two), (len(log) + 1, ("closed", 2))),
            ((one, ("closed", 2), ("closed", 1)), (len(log) + 2, None)), ((two, ("closed", 2)), (len(log) + 1, ("closed", 3))),
        ):
            self.assertEqual(audit((container,), log + rows), told, rows)

    def test_rows_behind_exchanged(self):
        old = box_of(bind("a", level="app", has_end=True), bind("b", "b", "plain a", level="app"), bind("c", level="app"))
        new = box_of(bind("a", level="app"), bind("b", "b", "plain a", level="app"), bind("c", level="app"))
        box = Box(old)
        for text in ("c", "b"):
            box.ask(1, K(text))
        exchange(box, new)
        log = box.log
        self.assertEqual(log[-3:], (("exchanged",), ("ended", 3, None), ("ended", 2, True)))
        at = len(log) - 3
        for containers in ((old, new), (old, new, old), (old, new, layers_of())):
            self.assertIsNone(audit(containers, log))
            self.assertEqual(audit(containers, log[:-1]), (at + 2, ("ended", 2, True)))
            self.assertEqual(audit(containers, log[:-2]), (at + 1, ("ended", 3, None)))
            self.assertEqual(audit(containers, log[:-2] + log[-1:]), (at + 1, ("ended", 3, None)))
        self.assertEqual(audit((old,), log), (at, None))
        # Nothing goes then, so that what follows looks like closing the only scope.
        self.assertEqual(audit((old, old), log), (at + 3, ("ended", 1, None)))
        self.assertEqual(audit((old, old), log[:at + 1] + log[at + 2:]), (at + 1, None))
        self.assertEqual(audit((new, old), log), (at + 2, ("ended", 2, None)))
        self.assertEqual(audit((new, old), log[:-1] + (("ended", 2, None),)), None)
        self.assertEqual(audit((old, new), log + (("exchanged",),)), (at + 3, None))
        self.assertIsNone(audit((old, new, new), log + (("exchanged",),)))

    def test_containers_that_are_not_reached(self):
        history = History(3)
        self.assertIsNone(audit(history.containers + (layers_of(levels="app session request"),) * 3, history.log))

    def test_other_containers(self):
        one, other = box_of(bind("a", "a", "maybe b")), box_of(bind("a", "a", "maybe b"), bind("b"))
        box = Box(one)
        box.ask(1, K("a"))
        self.assertIsNone(audit((one,), box.log))
        self.assertEqual(audit((other,), box.log), (1, ("made", 1, "b", K("b"), 1, ())))
        self.assertEqual(audit((layers_of(),), box.log), (0, None))
        self.assertIsNone(audit(log=(), containers=(layers_of(),)))

    def test_wrapped_things_and_handles(self):
        container = box_of(bind("a", "a", "lazy a", level="app"), wrap("w", "a", "maybe z", "lazy a"))
        box = Box(container)
        self.assertEqual((box.ask(1, K("a")), box.use(1), box.use(2)), (2, 2, 2))
        self.assertIsNone(audit((container,), box.log))
        self.assertEqual(audit((container,), box.log + (("used", 3),)), (len(box.log), None))
        self.assertEqual(audit((container,), box.log + (("used", 2),)), (len(box.log) + 1, ("gave", 2)))
        self.assertEqual(audit((container,), box.log[:2] + (("made", 2, "w", K("a"), 1, (1, None, ("handle", 1))),)),
                         (2, ("made", 2, "w", K("a"), 1, (1, None, ("handle", 2)))))

    def test_limits(self):
        container = box_of(bind("a"), bind("b", "b", *["plain c"] * 6), bind("c", "c", *["plain d"] * 6), bind("d", "d",
            *["plain a"] * 6), bind("far", level="request"))
        box = Box(container)
        for _ in range(99):
            box.enter(1)
        self.assertIsNone(audit((container,), box.log))
        self.assertEqual(audit((container,), box.log + (("entered", 101, 1),)), (99, None))
        self.assertEqual(audit((container,), (("entered", 2, 1), ("entered", 3, 2))), (1, None))
        box = Box(container)
        for _ in range(7):
            box.ask(1, K("b"))
        for _ in range(2000 - 7 * 259):
            box.ask(1, K("a"))
        self.assertEqual(len(box.log), 2000 + 2 * (7 + 2000 - 7 * 259))
        self.assertIsNone(audit((container,), box.log))
        self.assertEqual(audit((container,), box.log + (("asked", 1, K("a")),)), (len(box.log), None))
        for row in (("asked", 1, K("z")), ("asked", 1, K("far")), ("asked", 2, K("a")), ("used", 1), ("closed", 2), ("ended", 3000, None)):
            self.assertEqual(audit((container,), box.log[:261] + (row,)), (261, None), row)
        self.assertIsNone(audit((container,), box.log[:261]))

    def test_no_tuples(self):
        for value in OTHER_KINDS + ([], [("entered", 2, 1)], "log"):
            if not isinstance(value, tuple):
                self.assertEqual(audit((layers_of(),), value), (None, None))

    def test_bad_containers(self):
        good, other = layers_of(), layers_of(levels="request app")
        logs = ((), (("gave", 1),), None, [], Hostile())
        for log in logs:
            for value in OTHER_KINDS + ([good], good, "a"):
                if not isinstance(value, tuple) or value == ():
                    self.assertIsNone(field_of(self, BadContainers, audit, value, log))
                if not isinstance(value, tuple):
                    for many in range(3):
                        row = (good,) * many + (value,) + (other, None)
                        if value is not good:
                            self.assertEqual(field_of(self, BadContainers, audit, row, log), many)
            for wrong in (other, layers_of(levels="app"), layers_of(levels="app request more")):
                self.assertEqual(field_of(self, BadContainers, audit, (good, good, wrong, None), log), 2)
                self.assertEqual(field_of(self, BadContainers, audit, (wrong, good), log), 1)
            self.assertEqual(field_of(self, BadContainers, audit, (Hostile(), good), log), 0)


if __name__ == "__main__":
    unittest.main()
