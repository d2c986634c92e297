"""Logs: whether they can be those of some containers, and the calls of which they tell."""

from wirebox.boxes import Box
from wirebox.containers import Container
from wirebox.errors import BadContainers, BadLog, BoxError, WireError
from wirebox.exchanges import exchange
from wirebox.terms import is_key
from wirebox.words import is_count, is_word


def is_how(value):
    """Whether a value tells how a thing ended."""
    return value is None or isinstance(value, bool)


def is_held(value):
    """Whether a value is what a thing can hold for one want."""
    if value is None or is_count(value):
        return True
    if not isinstance(value, tuple):
        return False
    if len(value) == 2 and isinstance(value[0], str) and value[0] == "handle":
        return is_count(value[1])
    return all([is_count(number) for number in value])


def are_held(value):
    """Whether a value is what a thing can hold."""
    return isinstance(value, tuple) and all([is_held(told) for told in value])


# By its first word, what the other elements of a row have to be.
FORMS_OF_ROWS = {
    "entered": ("count", "count"),
    "asked": ("count", "key"),
    "used": ("count",),
    "made": ("count", "word", "key", "count", "holds"),
    "failed": ("word", "key", "count", "count"),
    "gave": ("count",),
    "ended": ("count", "how"),
    "closed": ("count",),
    "exchanged": (),
}


def is_told(kind, value):
    """Whether a value is of one of the kinds of elements."""
    if kind == "count":
        return is_count(value)
    if kind == "key":
        return is_key(value)
    if kind == "word":
        return is_word(value)
    return is_how(value) if kind == "how" else are_held(value)


def is_log_row(value):
    """Whether any value is a row of a log by its form."""
    if not isinstance(value, tuple) or len(value) == 0 or not is_word(value[0]) or value[0] not in FORMS_OF_ROWS:
        return False
    kinds = FORMS_OF_ROWS[value[0]]
    if len(value) != len(kinds) + 1:
        return False
    return all([is_told(kind, told) for kind, told in zip(kinds, value[1:])])


def need_containers(containers):
    """Refuse what cannot be the containers of a log."""
    if not isinstance(containers, tuple) or len(containers) == 0:
        raise BadContainers(None)
    for index, container in enumerate(containers):
        if not isinstance(container, Container) or container.levels != containers[0].levels:
            raise BadContainers(index)


class Audit:
    """Does in a box what the rows of a log tell, as long as they can stand."""

    def __init__(self, containers, log):
        self.box = Box(containers[0])
        self.further = containers[1:]
        self.rows = log
        self.at = 0

    def is_row(self, due):
        """Whether the next row of the log is this one."""
        return self.at < len(self.rows) and is_log_row(self.rows[self.at]) and self.rows[self.at] == due

    def act(self, row):
        """Do the call that has this as its first row, if any has."""
        word = row[0]
        if word == "entered":
            self.box.enter(row[2])
        elif word == "asked":
            self.box.ask(row[1], row[2])
        elif word == "used":
            self.box.use(row[1])
        elif word == "closed":
            self.box.close(row[1])
        elif word == "ended":
            self.box.close(self.box.thing(row[1])[1])
        elif word == "exchanged" and len(self.further) > 0:
            container = self.further[0]
            self.further = self.further[1:]
            exchange(self.box, container)

    def rows_behind(self, row):
        """The rows of the call that has this as its first row: none if there is no such call."""
        before = len(self.box.log)
        try:
            self.act(row)
        except (BoxError, WireError):
            # A failing has rows all the same, and what is refused has none.
            pass
        return self.box.log[before:]

    def first_wrong(self):
        """None, or the index of the first row that cannot stand, and the row that is due there or None."""
        while self.at < len(self.rows):
            row = self.rows[self.at]
            rows = self.rows_behind(row) if is_log_row(row) else ()
            if len(rows) == 0 or rows[0] != row:
                return (self.at, None)
            # If scopes below have to be closed first, then this is not the first row of closing.
            for due in rows:
                if not self.is_row(due):
                    return (self.at, due)
                self.at += 1
        return None


def audit(containers, log):
    """None if a log can be one of these containers; otherwise where it cannot, and the row that is due there."""
    need_containers(containers)
    if not isinstance(log, tuple):
        return (None, None)
    return Audit(containers, log).first_wrong()


def need_log(log):
    """Refuse what is no tuple of rows."""
    if not isinstance(log, tuple):
        raise BadLog(None)
    for index, row in enumerate(log):
        if not is_log_row(row):
            raise BadLog(index)


def is_closed_with(scope, way, above):
    """Whether a scope is closed just ahead of others in one call, and note it.

    The way has pairs of those others: each is directly above the next one, with that which was closed last of
    those directly below it. Backwards, scopes come in the order in which they were entered.
    """
    while len(way) > 0:
        upper, last = way[-1]
        if above.get(scope) == upper:
            if scope < last:
                return False
            way[-1] = (upper, scope)
            way.append((scope, 0))
            return True
        way.pop()
    return False


def call_of(row):
    """The call of a row that is the first one of a call, but for closing; None for other rows."""
    word = row[0]
    if word == "entered":
        return ("enter", row[2])
    if word == "asked":
        return ("ask", row[1], row[2])
    if word == "used":
        return ("use", row[1])
    return ("exchange",) if word == "exchanged" else None


def calls_of(log):
    """The tuple of the fewest calls that have this log."""
    need_log(log)
    above = {row[1]: row[2] for row in log if row[0] == "entered"}
    calls = []
    way = []
    for row in reversed(log):
        if row[0] == "closed":
            if not is_closed_with(row[1], way, above):
                calls.append(("close", row[1]))
                way = [(row[1], 0)]
        elif row[0] != "ended":
            way = []
            call = call_of(row)
            if call is not None:
                calls.append(call)
    return tuple(reversed(calls))
