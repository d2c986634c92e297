"""What DOC.md says of nodes and boxes, worked out in other ways than in the program: by calls in calls, for small worlds."""

import copy

from wirebox.bindings import Wrapper, wanted
from wirebox.choosing import choose, gather, wrapping
from wirebox.errors import (
    Ambiguous, BadHandle, BadScope, Captive, Closed, Failed, Missing, NoLevel, Ring, TooDeep, TooMany,
)

LARGE = 3000


def node_for(home, binding, key):
    return (binding.name, key, tuple(wrapper.name for wrapper in wrapping(home, key)))


def maker(node):
    return (node[0], *node[2])[-1]


def asked_by(top, node):
    """What a node wants: rows (form, home, key), an inner node as ("inner", None, node)."""
    part, home = top.part(maker(node)), top.home(maker(node))
    inner = [("inner", None, (node[0], node[1], node[2][:-1]))] if isinstance(part, Wrapper) else []
    return inner + [(form, home, key) for form, key in wanted(part, node[1])]


def answer(form, home, key):
    """What a want that is not lazy comes to: nodes, or it raises."""
    if form == "inner":
        return [key]
    if key is None:
        raise TooDeep(None)
    if form == "all":
        return [node_for(home, binding, key) for binding in gather(home, key)]
    binding = choose(home, key)
    if binding is None and form == "plain":
        raise Missing(None)
    return [] if binding is None else [node_for(home, binding, key)]


def gives(top, node):
    """What each want of a node gives, in order, or "fault"."""
    found = []
    for form, home, key in asked_by(top, node):
        try:
            if form == "lazy":
                found.append(("lazy", key))
            elif form == "all":
                found.append(tuple(answer(form, home, key)))
            else:
                found.append((answer(form, home, key) or [None])[0])
        except (TooDeep, Missing, Ambiguous):
            found.append("fault")
    return found


class Resolving:
    """Goes through nodes by calls in calls; a way is a tuple of pairs of a node and whether its key was asked."""

    def __init__(self, top):
        self.top = top
        self.nodes = []
        self.gone = []

    def ask(self, form, home, key, depth, way):
        path = tuple(node[1] for node, was_asked in way if was_asked)
        try:
            found = answer(form, home, key)
        except TooDeep:
            raise TooDeep(path) from None
        except Missing:
            raise Missing(path + (key,)) from None
        for node in found:
            self.reach(node, form != "inner", depth, way)

    def reach(self, node, was_asked, depth, way):
        level = self.top.part(node[0]).level
        here = way + ((node, was_asked),)
        if level is not None and self.top.levels.index(level) > depth:
            raise Captive(tuple(node[1] for node, was_asked in here if was_asked))
        for at, (other, _) in enumerate(way):
            if other == node:
                raise Ring((node[1],) + tuple(each[1] for each, was_asked in here[at + 1:] if was_asked))
        if node not in self.nodes:
            if len(self.nodes) == 500:
                raise TooMany(500)
            self.nodes.append(node)
        if level is not None:
            depth = self.top.levels.index(level)
        if (node, depth) not in self.gone:
            for form, home, key in asked_by(self.top, node):
                if form != "lazy":
                    self.ask(form, home, key, depth, here)
            self.gone.append((node, depth))


def resolve(top, home, key, depth):
    """All nodes that are reached, by their first places."""
    resolving = Resolving(top)
    resolving.ask("plain", home, key, depth, ())
    return resolving.nodes


def things_made(top, home, key):
    """How many things asking makes in a new box at the last level, or LARGE for more than so many: all are made."""
    kept = []

    def make(node):
        if top.part(node[0]).level is not None:
            if node in kept:
                return 0
            kept.append(node)
        many = 1
        for form, home, key in asked_by(top, node):
            if form != "lazy":
                many += sum(make(each) for each in answer(form, home, key)) if many < LARGE else 0
        return min(many, LARGE)

    return sum(make(node) for node in answer("plain", home, key))


class Machine:
    """A box that does all in the plainest way."""

    def __init__(self, top):
        self.top = top
        self.log = []
        self.scopes = {1: {"above": None, "depth": 0, "shut": False}}
        self.things = {}
        self.handles = {}
        self.tries = {}
        self.ends = {}

    def twin(self):
        other = Machine(self.top)
        for name in ("log", "scopes", "things", "handles", "tries", "ends"):
            setattr(other, name, copy.deepcopy(getattr(self, name)))
        return other

    def need(self, scope):
        if type(scope) is not int or scope not in self.scopes:
            raise BadScope(scope)
        if self.scopes[scope]["shut"]:
            raise Closed(scope)

    def enter(self, scope):
        self.need(scope)
        if self.scopes[scope]["depth"] + 1 == len(self.top.levels):
            raise NoLevel(self.top.levels[-1])
        if len(self.scopes) == 100:
            raise TooMany(100)
        number = len(self.scopes) + 1
        self.scopes[number] = {"above": scope, "depth": self.scopes[scope]["depth"] + 1, "shut": False}
        self.log.append(("entered", number, scope))
        return number

    def ask(self, scope, key):
        self.need(scope)
        return self.give(self.top, scope, key, ("asked", scope, key))

    def use(self, handle):
        if type(handle) is not int or handle not in self.handles:
            raise BadHandle(handle)
        number, key = self.handles[handle]
        thing = self.things[number]
        if not thing["lives"]:
            raise Closed(handle)
        if key is None:
            raise TooDeep((thing["node"][1],))
        return self.give(self.top.home(maker(thing["node"])), thing["scope"], key, ("used", handle))

    def give(self, home, scope, key, row):
        resolve(self.top, home, key, self.scopes[scope]["depth"])
        many = things_made(self.top, home, key)
        if many > 500:
            raise TooMany(500)
        if many + len(self.things) > 2000:
            raise TooMany(2000)
        self.log.append(row)
        start = len(self.things)
        try:
            number = self.make(answer("plain", home, key)[0], scope)
        except Failed:
            self.undo(start)
            raise
        self.log.append(("gave", number))
        return number

    def living(self):
        return [number for number in self.things if self.things[number]["lives"]]

    def make(self, node, scope):
        level = self.top.part(node[0]).level
        if level is not None:
            while self.top.levels[self.scopes[scope]["depth"]] != level:
                scope = self.scopes[scope]["above"]
            for number in self.living():
                if self.things[number]["node"] == node and self.things[number]["scope"] == scope:
                    return number
        holds, later = [], []
        for form, home, key in asked_by(self.top, node):
            if form == "lazy":
                later.append((len(holds), key))
                holds.append(None)
            else:
                numbers = [self.make(each, scope) for each in answer(form, home, key)]
                holds.append(tuple(numbers) if form == "all" else (numbers or [None])[0])
        name = maker(node)
        self.tries[name] = self.tries.get(name, 0) + 1
        if self.tries[name] in self.top.part(name).failing:
            self.log.append(("failed", name, node[1], scope, self.tries[name]))
            raise Failed(name)
        number = len(self.things) + 1
        for at, key in later:
            self.handles[len(self.handles) + 1] = (number, key)
            holds[at] = ("handle", len(self.handles))
        self.things[number] = {"node": node, "scope": scope, "holds": tuple(holds), "lives": True}
        self.log.append(("made", number, name, node[1], scope, tuple(holds)))
        return number

    def held(self, number):
        found = []
        for told in self.things[number]["holds"]:
            if isinstance(told, tuple) and told[:1] != ("handle",):
                found += told
            elif isinstance(told, int):
                found.append(told)
        return found

    def undo(self, start):
        new = [number for number in self.things if number > start]
        stay = {number for number in new if self.top.part(self.things[number]["node"][0]).level is not None}
        while True:
            more = {held for number in stay for held in self.held(number) if held > start} - stay
            if not more:
                break
            stay |= more
        self.put_away([number for number in new if number not in stay])

    def put_away(self, numbers):
        bad = []
        for number in sorted(numbers)[::-1]:
            thing = self.things[number]
            thing["lives"] = False
            part = self.top.part(maker(thing["node"]))
            how = None
            if part.has_end:
                self.ends[part.name] = self.ends.get(part.name, 0) + 1
                how = self.ends[part.name] not in part.bad_end
            self.log.append(("ended", number, how))
            bad += [number] if how is False else []
        return bad

    def close(self, scope):
        self.need(scope)
        bad = []
        for below in sorted(self.scopes)[::-1]:
            if self.scopes[below]["above"] == scope and not self.scopes[below]["shut"]:
                bad += self.close(below)
        bad += self.put_away([number for number in self.living() if self.things[number]["scope"] == scope])
        self.scopes[scope]["shut"] = True
        self.log.append(("closed", scope))
        return tuple(bad)

    def why(self, new, node):
        """Why a node comes otherwise in another container, or None."""
        nodes = []
        for home in new.chain:
            for binding in gather(home, node[1]):
                whole = node_for(home, binding, node[1])
                nodes += [whole[:2] + (whole[2][:many],) for many in range(len(whole[2]) + 1)]
        if node not in nodes:
            return ("node",)
        if self.top.part(maker(node)).has_end != new.part(maker(node)).has_end:
            return ("end",)
        if self.top.part(node[0]).level != new.part(node[0]).level:
            return ("level",)
        one, other = gives(self.top, node), gives(new, node)
        for at in range(max(len(one), len(other))):
            if one[at:at + 1] != other[at:at + 1] or one[at] == "fault":
                return ("wants", at)
        return None

    def stale(self, new):
        found = {number for number in self.living() if self.why(new, self.things[number]["node"]) is not None}
        while True:
            more = set()
            for number in self.living():
                if number not in found and any(held in found for held in self.held(number)):
                    more.add(number)
                loose = self.top.part(self.things[number]["node"][0]).level is None
                if number not in found and loose and any(number in self.held(other) for other in found):
                    more.add(number)
            if not more:
                return tuple(sorted(found))
            found |= more

    def stale_paper(self, new):
        """Pairs of a number and why, worked out for each thing on its own."""
        def is_first(number):
            return self.why(new, self.things[number]["node"]) is not None or any(is_first(held) for held in self.held(number))

        rows = []
        stale = self.stale(new)
        for number in stale:
            why = self.why(new, self.things[number]["node"])
            held = [other for other in sorted(self.held(number)) if is_first(other)]
            if why is None:
                why = ("holds", held[0]) if held else ("held", [other for other in stale if number in self.held(other)][0])
            rows.append((number, why))
        return tuple(rows)

    def exchange(self, new):
        numbers = self.stale(new)
        self.log.append(("exchanged",))
        self.put_away(numbers)
        self.top = new
        return numbers
