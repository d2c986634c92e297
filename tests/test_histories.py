"""Points [30] to [43] and [70] to [72] for random containers and histories, against the plain machine of tests/machine.py."""

import unittest

from tests.machine import LARGE, Machine, gives, maker, resolve, things_made
from tests.worlds import GROUND, LEVELS, World
from wirebox.boxes import Box
from wirebox.errors import BoxError, WireError
from wirebox.exchanges import comes_otherwise, exchange, stale_paper, stale_things
from wirebox.nodes import count_of, level_of_node, node_of, resolved, wanted_by
from wirebox.plans import plan
from wirebox.terms import read_key

KEYS = tuple(read_key(text) for text in GROUND)


def outcome(call, *told):
    """What a call tells, or the name and the field of its error."""
    try:
        return call(*told)
    except (BoxError, WireError) as error:
        return (error.__class__.__name__, vars(error))


def as_fault(told):
    """What a call of the machine tells, if that is an error."""
    return told if isinstance(told, tuple) and len(told) == 2 and isinstance(told[1], dict) else None


class NodesTest(unittest.TestCase):
    def test_resolving_and_counts(self):
        kinds = {}
        for seed in range(400):
            container = World(seed, levels=(0, 40, 80)[seed % 3], faults=(5, 30)[seed % 2], wants=(2, 4)[seed % 2],
                              floor=(0, 70)[seed % 2]).container()
            for key in KEYS[seed % 2::2]:
                for depth, level in enumerate(LEVELS):
                    told = outcome(resolve, container, container, key, depth)
                    found = outcome(resolved, container, key, level)
                    kinds[as_fault(told)[0] if as_fault(told) else ""] = True
                    self.assertEqual(found, as_fault(told) or tuple(told))
                found = outcome(count_of, container, key)
                if as_fault(told):
                    self.assertEqual(found, as_fault(told))
                else:
                    self.assertEqual(min(found, LARGE), things_made(container, container, key))
        self.assertEqual(set(kinds), {"", "Missing", "Ambiguous", "Captive", "Ring", "TooDeep"})

    def test_what_nodes_want(self):
        for seed in range(200):
            container = World(seed, levels=0, opened=30, faults=20, floor=50).container()
            for key in KEYS:
                nodes = outcome(resolve, container, container, key, 2)
                if as_fault(nodes):
                    continue
                self.assertEqual(node_of(container, key), nodes[0])
                for node in nodes:
                    self.assertEqual(level_of_node(container, node), container.part(node[0]).level)
                    self.assertEqual(list(wanted_by(container, node)), gives(container, node))


class HistoryTest(unittest.TestCase):
    def alike(self, box, machine):
        """Whether a box and a machine tell the same of all."""
        self.assertEqual(box.log, tuple(machine.log))
        self.assertEqual(box.scopes, tuple(scope for scope, state in machine.scopes.items() if not state["shut"]))
        for scope, state in machine.scopes.items():
            self.assertEqual(box.level_at(scope), machine.top.levels[state["depth"]])
            living = tuple(number for number in machine.living() if machine.things[number]["scope"] == scope)
            self.assertEqual(box.things_in(scope), living)
            for number in living:
                node = machine.things[number]["node"]
                is_kept = machine.top.part(node[0]).level is not None
                self.assertEqual(box.kept_at(scope, node), number if is_kept else None)
        for number, thing in machine.things.items():
            self.assertEqual(box.thing(number), (thing["node"], thing["scope"], thing["holds"]))
            self.assertIs(box.lives(number), thing["lives"])
            holders = tuple(other for other in machine.living() if number in machine.held(other))
            self.assertEqual(box.holders_of(number), holders)
        for handle, told in machine.handles.items():
            self.assertEqual(box.handle_of(handle), told)
        for name in [part.name for home in machine.top.chain for layer in home.layers for part in layer]:
            self.assertEqual(box.attempts_of(name), machine.tries.get(name, 0))
            self.assertEqual(box.endings_of(name), machine.ends.get(name, 0))

    def step(self, world, box, machine):
        """Do one thing with both, and tell what it was."""
        draw = world.random
        what = draw.choice(("enter", "enter", "ask", "ask", "ask", "ask", "use", "use", "use", "close", "exchange"))
        scope = draw.choice((box.scopes or (1,))[-3:]) if draw.randrange(9) else draw.randrange(len(machine.scopes) + 3)
        if what == "exchange":
            container = world.variant(machine.top)
            self.assertEqual(stale_paper(box, container), machine.stale_paper(container))
            self.assertEqual(stale_things(box, container), machine.stale(container))
            for thing in machine.things.values():
                if thing["lives"]:
                    why = machine.why(container, thing["node"])
                    self.assertIs(comes_otherwise(machine.top, container, thing["node"]), why is not None)
            self.assertEqual(exchange(box, container), machine.exchange(container))
            self.assertTrue(box.container is container)
            return what
        if what == "close":
            scope = max(scope, draw.randrange(1, len(machine.scopes) + 1), 2)
        handle = draw.randrange(1, max(len(machine.handles), 1) + (not draw.randrange(9)) + 1)
        told = {"ask": (scope, draw.choice(KEYS)), "use": (handle,)}.get(what, (scope,))
        if what == "ask":
            twin = box.twin()
            before = len(twin.log)
            ahead = outcome(plan, box, *told)
            after = outcome(twin.ask, *told)
            if len(twin.log) > before:
                self.assertEqual(ahead, twin.log[before + 1:])
            else:
                self.assertEqual(ahead, after)
            self.alike(box, machine)
        self.assertEqual(outcome(getattr(box, what), *told), outcome(getattr(machine, what), *told), (what, told))
        return what

    def test_histories(self):
        rows = {}
        for seed in range(200):
            world = World(seed, failing=(0, 60)[seed % 2], faults=2, opened=20, levels=(20, 50)[seed % 2], floor=90)
            container = world.container()
            box, machine = Box(container), Machine(container)
            for scope in (1, 2):
                self.assertEqual(box.enter(scope), machine.enter(scope))
            for step in range(40):
                self.step(world, box, machine)
                if step % 5 == 4:
                    self.alike(box, machine)
            for row in box.log:
                rows[row[0]] = rows.get(row[0], 0) + 1
            self.facts(box.log)
        self.assertEqual(set(rows), {"entered", "asked", "made", "failed", "gave", "used", "ended", "closed", "exchanged"})
        self.assertGreater(min(rows.values()), 50, rows)

    def facts(self, log):
        """The facts of point [43]."""
        ended, closed, holders, above, lived = {}, {}, {}, {1: None}, {}
        for at, row in enumerate(log):
            if row[0] == "entered":
                self.assertNotIn(row[2], closed)
                above[row[1]] = row[2]
            elif row[0] in ("asked", "closed"):
                self.assertNotIn(row[1], closed)
                if row[0] == "closed":
                    closed[row[1]] = at
                    self.assertTrue(all(scope in closed for scope in above if above[scope] == row[1]))
                    self.assertTrue(all(number in ended for number in lived if lived[number] == row[1]))
            elif row[0] == "made":
                self.assertNotIn(row[4], closed)
                lived[row[1]] = row[4]
                for told in row[5]:
                    for number in (told if isinstance(told, tuple) and told[:1] != ("handle",) else [told]):
                        if isinstance(number, int):
                            self.assertLess(number, row[1])
                            holders.setdefault(number, []).append(row[1])
            elif row[0] == "ended":
                self.assertNotIn(row[1], ended)
                self.assertTrue(all(holder in ended for holder in holders.get(row[1], [])))
                ended[row[1]] = at

    def test_twins_go_their_own_ways(self):
        for seed in range(40):
            world = World(seed, failing=20, faults=2, opened=30, floor=80)
            container = world.container()
            box, machine = Box(container), Machine(container)
            for _ in range(12):
                self.step(world, box, machine)
            twin, double = box.twin(), machine.twin()
            self.assertTrue(twin.container is box.container)
            for _ in range(8):
                self.step(world, twin, double)
            self.alike(box, machine)
            self.alike(twin, double)
            for _ in range(8):
                self.step(world, box, machine)
            self.alike(box, machine)
            self.alike(twin, double)


class FactsTest(unittest.TestCase):
    def test_what_is_resolved_at_a_level_is_so_at_later_ones(self):
        for seed in range(150):
            container = World(seed, levels=60, faults=15).container()
            for key in KEYS:
                found = [outcome(resolved, container, key, level) for level in LEVELS]
                for one, other in zip(found, found[1:]):
                    if not as_fault(one):
                        self.assertEqual(one, other)

    def test_two_askings_in_either_order(self):
        for seed in range(150):
            world = World(seed, levels=40, faults=2, opened=20, floor=80)
            container = world.container()
            one, other = Box(container), Box(container)
            pair = world.random.sample(KEYS, 2)
            for box, row in ((one, pair), (other, pair[::-1])):
                box.enter(1)
                box.enter(2)
                for key in row:
                    outcome(box.ask, 3, key)
            for scope in (1, 2, 3):
                self.assertEqual(sorted(shape(one, number) for number in one.things_in(scope)),
                                 sorted(shape(other, number) for number in other.things_in(scope)))

    def test_what_is_given_behind_an_exchange(self):
        many = 0
        for seed in range(300):
            world = World(seed, levels=40, faults=2, opened=20, floor=80)
            old = world.container()
            new = world.variant(old)
            used, fresh = Box(old), Box(new)
            for box in (used, fresh):
                box.enter(1)
                box.enter(2)
            for _ in range(3):
                outcome(used.ask, world.random.randrange(1, 4), world.random.choice(KEYS))
            exchange(used, new)
            many += any(used.things_in(scope) for scope in (1, 2, 3))
            for number in [number for scope in (1, 2, 3) for number in used.things_in(scope)]:
                node, _, holds = used.thing(number)
                given = gives(new, node)
                self.assertEqual(len(given), len(holds))
                for want, told in zip(given, holds):
                    if told is None or isinstance(told, int):
                        self.assertEqual(want, None if told is None else used.thing(told)[0])
                    elif told[:1] == ("handle",):
                        self.assertEqual(want, ("lazy", used.handle_of(told[1])[1]))
                    else:
                        self.assertEqual(want, tuple(used.thing(each)[0] for each in told))
            for _ in range(6):
                scope, key = world.random.randrange(1, 4), world.random.choice(KEYS)
                told = [outcome(box.ask, scope, key) for box in (used, fresh)]
                if isinstance(told[0], int):
                    self.assertEqual(shape(used, told[0]), shape(fresh, told[1]))
                else:
                    self.assertEqual(told[0], told[1])
        self.assertGreater(many, 100)

    def test_exchanging_at_once_puts_away_nothing_that_stays_otherwise(self):
        for seed in range(150):
            world = World(seed, levels=40, faults=2, opened=20, floor=80)
            old = world.container()
            middle = world.variant(old)
            new = world.variant(middle)
            box = Box(old)
            box.enter(1)
            box.enter(2)
            for _ in range(5):
                outcome(box.ask, world.random.randrange(1, 4), world.random.choice(KEYS))
            twin = box.twin()
            exchange(twin, middle)
            exchange(twin, new)
            for number in exchange(box, new):
                self.assertIs(twin.lives(number), False)


def shape(box, number):
    """A thing without its number: its node, its scope, and such of all that it holds."""
    node, scope, holds = box.thing(number)
    told = []
    for held in holds:
        if held is None:
            told.append("nothing")
        elif isinstance(held, int):
            told.append(shape(box, held))
        elif held[:1] == ("handle",):
            told.append(("lazy", box.handle_of(held[1])[1]))
        else:
            told.append(("all", tuple(shape(box, each) for each in held)))
    return repr((node, maker(node), scope, told))


if __name__ == "__main__":
    unittest.main()
