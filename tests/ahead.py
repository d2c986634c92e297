"""What DOC.md says of the check, and of rings and lazy wants, worked out in other ways than in the program."""

import itertools

from tests.machine import Machine, Resolving, answer, asked_by, maker, things_made
from wirebox.bindings import Wrapper
from wirebox.errors import Ambiguous, BoxError, Captive, Missing, Ring, TooDeep, TooMany
from wirebox.rows import bare

RESOLVING = (TooDeep, Missing, Ambiguous, Captive, Ring)


class Pairs(Resolving):
    """Resolving that notes each node with the depth at which its things live."""

    def __init__(self, top):
        super().__init__(top)
        self.pairs = []

    def reach(self, node, was_asked, depth, way):
        level = self.top.part(node[0]).level
        pair = (node, depth if level is None else self.top.levels.index(level))
        if pair not in self.pairs:
            self.pairs.append(pair)
        super().reach(node, was_asked, depth, way)


def told_by(error):
    return (error.__class__.__name__, list(vars(error).values())[0])


class Slow:
    """The check, word by word as the document tells it."""

    def __init__(self, container, roots):
        self.top = bare(container)
        self.looked = []
        # Rows of a cost, what decides between those of equal cost, and the asking.
        self.waiting = []
        for at, (key, level) in enumerate(roots):
            depth = self.top.levels.index(level)
            asking = {"home": self.top, "key": key, "depth": depth, "row": [("ask", key, depth)], "leader": None}
            self.waiting.append((depth + 1, (0, at), asking))

    def is_looked(self, asking):
        return any(all(asking[name] == other[name] for name in ("key", "depth")) and asking["home"] is other["home"]
                   for other in self.looked)

    def find(self):
        while self.waiting:
            self.waiting.sort(key=lambda row: row[:2])
            cost, _, asking = self.waiting.pop(0)
            if self.is_looked(asking):
                continue
            if len(self.looked) == 300:
                raise TooMany(300)
            fault = self.look(cost, asking)
            if fault:
                return fault + (self.row(asking["row"]),)
        return None

    def look(self, cost, asking):
        self.looked.append(asking)
        if asking["key"] is None:
            return ("TooDeep", (asking["leader"][1],))
        pairs = Pairs(self.top)
        try:
            pairs.ask("plain", asking["home"], asking["key"], asking["depth"], ())
            if things_made(self.top, asking["home"], asking["key"]) > 500:
                raise TooMany(500)
        except (*RESOLVING, TooMany) as error:
            return told_by(error)
        for at, (node, depth) in enumerate(pairs.pairs):
            for place, (form, home, key) in enumerate(asked_by(self.top, node)):
                if form == "lazy":
                    row = asking["row"] + [("use", node, place, depth)]
                    other = {"home": home, "key": key, "depth": depth, "row": row, "leader": node}
                    self.waiting.append((cost + 1, (1, len(self.looked), at, place), other))
        return None

    def row(self, steps):
        machine, row = Machine(self.top), []
        for depth in range(steps[0][2]):
            row.append(("enter", depth + 1))
            machine.enter(depth + 1)
        for at, step in enumerate(steps):
            if step[0] == "ask":
                row.append(("ask", step[2] + 1, step[1]))
            else:
                _, node, place, depth = step
                for handle in sorted(machine.handles):
                    thing = machine.things[machine.handles[handle][0]]
                    if thing["node"] == node and thing["scope"] == depth + 1 and thing["holds"][place] == ("handle", handle):
                        row.append(("use", handle))
                        break
            if at + 1 < len(steps):
                getattr(machine, row[-1][0])(*row[-1][1:])
        return tuple(row)


def slow_check(container, roots):
    return Slow(container, roots).find()


def commands_for(machine, roots):
    """All commands of rows of roots behind those that the machine did."""
    top = machine.top
    found = [("use", handle) for handle in machine.handles]
    for scope, state in machine.scopes.items():
        found.append(("enter", scope))
        found += [("ask", scope, key) for key, level in roots if top.levels.index(level) <= state["depth"]]
    return found


def goes_wrong(container, roots, many):
    """Whether a row of at most so many commands goes wrong: all are tried."""
    states = [Machine(bare(container))]
    for step in range(many):
        following = []
        for machine in states:
            for command in commands_for(machine, roots):
                twin = machine.twin() if step + 1 < many or command[0] != "enter" else None
                if twin is None:
                    continue
                try:
                    getattr(twin, command[0])(*command[1:])
                except RESOLVING:
                    return True
                except BoxError:
                    continue
                following.append(twin)
        states = following
    return False


def given(top, node):
    """For each place of a node its form and the nodes to which the want leads."""
    found = []
    for place, (form, home, key) in enumerate(asked_by(top, node)):
        part = top.part(maker(node))
        told = form if form == "inner" else part.wants[place - isinstance(part, Wrapper)][0]
        try:
            found.append((told, answer("plain" if form == "lazy" else form, home, key)))
        except (TooDeep, Missing, Ambiguous):
            found.append((told, []))
    return found


def all_nodes(top, roots):
    """The nodes in question, in the order of point [61]."""
    found = []
    for key, _ in roots:
        try:
            found += [node for node in answer("plain", top, key) if node not in found]
        except (Missing, Ambiguous):
            pass
    for node in found:
        for _, nodes in given(top, node):
            found += [other for other in nodes if other not in found]
    return found


def all_rings(top, nodes):
    """All rings of nodes that begin with the first of their nodes."""
    found = []
    places = {node: at for at, node in enumerate(nodes)}
    wants = {node: given(top, node) for node in nodes}

    def go(way):
        for place, (form, following) in enumerate(wants[way[-1][0]]):
            if form == "lazy":
                continue
            here = way[:-1] + ((way[-1][0], place),)
            for node in following:
                if node == way[0][0]:
                    found.append(here)
                elif places[node] > places[way[0][0]] and node not in [other for other, _ in way]:
                    go(here + ((node, None),))

    for node in nodes:
        go(((node, None),))
    return found


def breakers(top, ring):
    """The changes that break a ring."""
    wants = {node: given(top, node) for node, _ in ring}
    return {(maker(node), place) for node, place in ring if wants[node][place][0] == "plain"}


def fewest(top, rings):
    """The least of the smallest tuples of changes that break rings, None if there is none: all are tried."""
    rows = [breakers(top, ring) for ring in rings]
    changes = sorted(set().union(*rows))
    for many in range(len(changes) + 1):
        for row in itertools.combinations(changes, many):
            if all(set(row) & breaking for breaking in rows):
                return row
    return None


def slow_form(top, roots):
    """The normal form, and the holdings, with lives found by going on as long as there is something to do."""
    nodes = all_nodes(top, roots)
    number = {node: at for at, node in enumerate(nodes)}
    starts = tuple(number[answer("plain", top, key)[0]] for key, _ in roots)
    rows, held, free = [], [0] * len(nodes), [at in starts for at in range(len(nodes))]
    for node in nodes:
        wants = []
        for form, found in given(top, node):
            numbers = tuple(number[each] for each in found)
            word = form if form in ("lazy", "all") else "one" if numbers else "none"
            wants.append((word, numbers))
            for each in numbers:
                free[each] = free[each] or form == "lazy"
                held[each] += form != "lazy"
        rows.append(tuple(wants))
    lives = [top.part(node[0]).level for node in nodes]
    while True:
        found = [(at, other) for at in range(len(nodes)) for other in range(len(nodes))
                 if lives[at] is None and not free[at] and held[at] == 1 and lives[other] is not None
                 and any(word != "lazy" and at in numbers for word, numbers in rows[other])]
        if not found:
            break
        lives[found[-1][0]] = lives[found[-1][1]]
    told = tuple((node, top.part(maker(node)).has_end, lives[at], rows[at]) for at, node in enumerate(nodes))
    return (starts, told), tuple(zip(held, free))
