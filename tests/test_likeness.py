"""Points [60], [66] and [67]: which containers are alike, and rows that separate them."""

import unittest

from tests.ahead import all_nodes
from tests.build import bind, box_of, field_of, layers_of, wrap
from tests.machine import Machine
from tests.pairs import Pairs
from tests.test_check import GOOD, NO_ROOTS, roots
from tests.test_resolving import counting, number_text, summing
from tests.test_rows import bad_commands
from tests.values import OTHER_KINDS, Hostile
from wirebox.checking import check
from wirebox.containers import Container
from wirebox.errors import BadContainer, BadRoots, BoxError, TooMany, Troubled, Unchecked, WireError
from wirebox.finding import Finder
from wirebox.forms import normal_form
from wirebox.likeness import alike, separates
from wirebox.nodes import count_of
from wirebox.reaching import Chart
from wirebox.rebuilding import container_with
from wirebox.rows import are_commands, play
from wirebox.running import Run
from wirebox.terms import read_key

K = read_key


def logs(one, other, row):
    """The logs of two machines that do a row, each None if it raises."""
    found = []
    for container in (one, other):
        machine = Machine(container)
        try:
            for command in row:
                getattr(machine, command[0])(*command[1:])
            found.append(machine.log)
        except (BoxError, WireError) as error:
            assert not isinstance(error, TooMany), error
            found.append(None)
    return found


def random_row(draw, container, asked, many):
    """A row of roots that may close scopes, and that a machine of the container can do."""
    machine, row, levels = Machine(container), [("enter", 1), ("enter", 2)], container.levels
    for command in row:
        machine.enter(command[1])
    while len(row) < many:
        scope = draw.randrange(1, len(machine.scopes) + 1)
        key, level = draw.choice(asked)
        what = draw.choice(("enter", "ask", "ask", "ask", "use", "use", "close"))
        command = {"enter": ("enter", scope), "close": ("close", max(scope, 2)), "use": ("use", draw.randrange(1, len(machine.handles) + 2)),
                   "ask": ("ask", scope, key)}[what]
        if what == "ask" and machine.scopes[scope]["depth"] < levels.index(level):
            command = ("ask", 3, key)
        try:
            getattr(machine.twin(), command[0])(*command[1:])
        except (BoxError, WireError):
            many -= 1
            continue
        getattr(machine, command[0])(*command[1:])
        row.append(command)
    return tuple(row)


class AlikeTest(unittest.TestCase):
    def differ(self, one, other, asked):
        """Whether two containers are told apart by a row, both ways."""
        self.assertNotEqual(normal_form(one, asked), normal_form(other, asked))
        for first, second in ((one, other), (other, one)):
            row = alike(first, second, asked)
            self.assertIs(are_commands(row), True)
            self.assertIs(separates(first, second, asked, row), True)
            self.assertIs(separates(second, first, asked, row), True)
            found = logs(first, second, row)
            self.assertNotEqual(found[0], found[1])
            depths = {1: 0}
            for command in row:
                if command[0] == "enter":
                    depths[len(depths) + 1] = depths[command[1]] + 1
                elif command[0] == "ask":
                    self.assertTrue(any(key == command[2] and one.levels.index(level) <= depths[command[1]] for key, level in asked))
            self.assertIs(separates(first, first, asked, row), False)

    def are_alike(self, one, other, text):
        asked = roots(text)
        self.assertIsNone(alike(one, other, asked))
        self.assertIsNone(alike(other, one, asked))
        self.assertEqual(normal_form(one, asked), normal_form(other, asked))

    def test_what_cannot_be_seen(self):
        one = box_of(bind("a", "f[T]", "plain b", "maybe z", level="request"), bind("b", "b", "plain c"), bind("c"), bind("x", "x", "plain q"))
        for other in (
            one, Container(one.levels, one.layers), box_of(*one.layers[0], bind("more", "more", "plain gone")),
            box_of(bind("a", "f[S]", "plain b", "maybe z", level="request"), *one.layers[0][1:3]),
            box_of(bind("a", "f[k]", "maybe b", "maybe zz", level="request"), *one.layers[0][1:3]),
            box_of(bind("a", "f[T]", "plain b", "maybe z", level="request"), bind("b", "b", "plain c", level="request"), bind("c")),
            box_of(bind("a", "f[T]", "plain b", "maybe z", level="request"), bind("b", "b", "plain c"), bind("c", level="request")),
            layers_of([bind("c"), bind("b", "b", "maybe c")], [], [bind("a", "f[T]", "plain b", "maybe z", level="request")]),
            layers_of([bind("a", "f[T]", "plain b", "maybe z", level="request")], parent=layers_of([bind("b", "b", "plain c"), bind("c")])),
        ):
            self.are_alike(one, other, "f[k] request")

    def test_nodes(self):
        one = box_of(bind("a", "a", "plain b", "lazy c"), bind("b"), bind("c"))
        for parts in (
            (bind("a2", "a", "plain b", "lazy c"), bind("b"), bind("c")), (bind("a", "a", "plain b", "lazy c"), bind("b2", "b"), bind("c")),
            (bind("a", "a", "plain b", "lazy c"), bind("b"), bind("c2", "c")), (bind("a", "a", "plain b", "lazy c"), bind("b"), bind("c"), wrap("w", "a")),
            (bind("a", "a", "plain b", "lazy c"), bind("b"), bind("c"), wrap("w", "b")),
            (bind("a", "a", "plain b", "lazy c"), bind("b"), bind("c"), wrap("w", "c")),
            (bind("a", "a", "plain b#x", "lazy c"), bind("b", "b#x"), bind("c")), (bind("a", "a", "plain b", "lazy c#x"), bind("b"), bind("c", "c#x")),
        ):
            self.differ(one, box_of(*parts), roots("a app"))
            self.differ(one, box_of(*parts), roots("a request"))

    def test_wrappers_in_another_order(self):
        rest = bind("a"), bind("b", "b", "lazy a")
        one, other = box_of(wrap("v", "a"), wrap("w", "a"), *rest), box_of(wrap("w", "a"), wrap("v", "a"), *rest)
        for text in ("a app", "b app", "b app; a app"):
            self.differ(one, other, roots(text))
        self.differ(box_of(wrap("w", "a"), *rest), box_of(wrap("v", "a"), wrap("w", "a"), *rest), roots("a app"))
        self.differ(box_of(bind("a"), wrap("w", "a")), box_of(bind("a2", "a"), wrap("w", "a")), roots("a app"))

    def test_wants(self):
        rest = bind("b"), bind("c"), bind("f", "f[T]"), bind("g", "f[x]")
        forms = ("plain b", "all b", "lazy b", "plain c", "maybe z", "all z", "", "plain b, plain b", "all f[x]", "all f[y]", "lazy c", "plain b#x",
                 "plain b, maybe z", "maybe z, plain b", "plain b, plain c", "plain c, plain b", "all f[z]", "lazy f[x]", "lazy f[y]")
        boxes = [box_of(bind("a", "a", *[want for want in wants.split(", ") if want]), *rest, bind("b2", "b#x")) for wants in forms]
        for at, one in enumerate(boxes):
            for other in boxes[:at]:
                self.differ(one, other, roots("a app"))
        self.differ(boxes[0], boxes[3], roots("b app; c app; a app"))

    def test_gathered_ones_in_another_order(self):
        one, other = box_of(bind("a", "a", "all f[x]"), bind("f", "f[T]"), bind("g", "f[x]")), box_of(
            bind("a", "a", "all f[x]"), bind("g", "f[x]"), bind("f", "f[T]"))
        self.differ(one, other, roots("a app"))

    def test_lazy_wants_that_lead_elsewhere(self):
        one = box_of(bind("a", "a", "lazy b", "lazy c"), bind("b", "b", "lazy d"), bind("c", "c", "lazy d"), bind("d"), bind("e"))
        for parts in (
            (bind("a", "a", "lazy c", "lazy b"),) + one.layers[0][1:], (bind("a", "a", "lazy b", "lazy b"),) + one.layers[0][1:],
            one.layers[0][:2] + (bind("c", "c", "lazy e"),) + one.layers[0][3:], one.layers[0][:2] + (bind("c", "c", "lazy a"),) + one.layers[0][3:],
        ):
            self.differ(one, box_of(*parts), roots("a app"))
            self.differ(one, box_of(*parts), roots("a app; d request; e app"))
        # The same key is asked elsewhere.
        parent = layers_of([bind("a", "a", "lazy b"), bind("b")])
        child = layers_of([bind("b2", "b"), bind("k", "k", "lazy b", "plain a")], parent=parent)
        flat = layers_of([bind("b2", "b"), bind("a", "a", "lazy b")], [bind("b"), bind("k", "k", "lazy b2", "plain a"), bind("b22", "b2")])
        self.differ(child, flat, roots("k app"))
        self.differ(layers_of([bind("b2", "b")], parent=parent), box_of(bind("b2", "b"), bind("a", "a", "lazy b")), roots("a app; b app"))

    def test_ends(self):
        for levels in ((None, None), ("app", None), ("request", "request")):
            one = box_of(bind("a", "a", "lazy b", level=levels[0]), bind("b", level=levels[1]), wrap("w", "b"))
            for other in (
                box_of(bind("a", "a", "lazy b", level=levels[0], has_end=True), bind("b", level=levels[1]), wrap("w", "b")),
                box_of(bind("a", "a", "lazy b", level=levels[0]), bind("b", level=levels[1], has_end=True), wrap("w", "b")),
                box_of(bind("a", "a", "lazy b", level=levels[0]), bind("b", level=levels[1]), wrap("w", "b", has_end=True)),
            ):
                if levels != ("app", None):
                    self.differ(one, other, roots("a request"))
                self.differ(one, other, roots("b request; a request"))
        one, other = box_of(bind("a", has_end=True), wrap("w", "a")), box_of(bind("a"), wrap("w", "a", has_end=True))
        self.differ(one, other, roots("a app"))

    def test_lives_of_roots_and_by_handles(self):
        for one, other in ((None, "app"), (None, "request"), ("app", "request")):
            for text in ("a request", "a request; a request"):
                self.differ(box_of(bind("a", level=one)), box_of(bind("a", level=other)), roots(text))
            rest = bind("b", "b", "lazy a", level="request"), bind("c", "c", "lazy a"), bind("d", "d", "maybe b")
            for text in ("b request", "c request", "d request"):
                self.differ(box_of(bind("a", level=one), *rest), box_of(bind("a", level=other), *rest), roots(text))
        self.differ(box_of(bind("a")), box_of(bind("a", level="app")), roots("a app"))
        rest = bind("b", "b", "lazy a", level="app"), bind("c", "c", "plain b")
        self.differ(box_of(bind("a"), *rest), box_of(bind("a", level="app"), *rest), roots("c app"))

    def test_lives_of_what_is_held_by_several(self):
        for one, other in ((None, "app"), (None, "request"), ("app", "request")):
            for wants in (("plain b", "plain c"), ("plain b", "lazy c"), ("lazy b", "lazy c"), ("all b", "plain d"), ("plain n", "plain n"),
                          ("plain c", "plain d"), ("all n", "maybe n")):
                for level in (None, "request"):
                    rest = [bind("b", "b", "plain n", level=level), bind("c", "c", "plain n", level=level), bind("d", "d", "plain n")]
                    top = bind("top", "top", *wants, level="request")
                    pair = [box_of(top, *rest, bind("n", level=life)) for life in (one, other)]
                    asked = roots("top request")
                    if normal_form(pair[0], asked) == normal_form(pair[1], asked):
                        self.assertIsNone(alike(*pair, asked))
                    else:
                        self.differ(*pair, asked)

    def test_lives_of_what_is_held_by_one(self):
        for one, other in ((None, "app"), (None, "request"), ("app", "request")):
            # What is made twice is the one that holds it, or what holds that one.
            chain = [bind("b", "b", "plain c"), bind("c", "c", "plain n"), bind("d", "d", "plain b"), bind("e", "e", "lazy b")]
            for text in ("b request", "d request", "e request", "c request"):
                self.differ(box_of(*chain, bind("n", level=one)), box_of(*chain, bind("n", level=other)), roots(text))
            kept = [bind("b", "b", "plain c", level="request"), bind("c", "c", "plain n")]
            pair = [box_of(*kept, bind("n", level=level)) for level in (one, other)]
            if "app" in (one, other):
                self.differ(*pair, roots("b request"))
            else:
                self.assertIsNone(alike(*pair, roots("b request")))
            self.differ(*pair, roots("c request; b request"))

    def test_lives_of_wrapped_nodes(self):
        for one, other in ((None, "app"), (None, "request"), ("app", "request")):
            rest = wrap("v", "a", "plain b"), wrap("w", "a"), bind("b")
            for level in (None, "request"):
                self.differ(box_of(bind("a", level=one), *rest), box_of(bind("a", level=other), *rest), roots("a request"))
                more = (bind("top", "top", "lazy a", level=level),)
                self.differ(box_of(bind("a", level=one), *rest, *more), box_of(bind("a", level=other), *rest, *more), roots("top request"))

    def test_random_containers(self):
        kinds = {"alike": 0, "lives": 0, "else": 0}
        for seed in range(280):
            pair = Pairs(seed, levels=(10, 25, 50)[seed % 3], wants=(3, 5)[seed % 2], ends=(30, 0)[seed % 5 == 0])
            asked = tuple((key, "request") for key, _ in pair.roots) if seed % 4 else pair.roots
            for many in (1, 1, 2, 3):
                other = pair.other(many)
                try:
                    if check(pair.one, asked) is not None or check(other, asked) is not None:
                        continue
                except TooMany:
                    continue
                if pair.one == other:
                    continue
                forms = normal_form(pair.one, asked), normal_form(other, asked)
                if forms[0] == forms[1]:
                    kinds["alike"] += 1
                    self.assertIsNone(alike(pair.one, other, asked))
                    for first, second in ((pair.one, other), (other, pair.one)):
                        row = random_row(pair.draw, first, asked, 10)
                        self.assertIs(separates(first, second, asked, row), False)
                        found = logs(first, second, row)
                        self.assertEqual(found[0], found[1])
                else:
                    rests = [[entry[:2] + entry[3:] for entry in form[1]] for form in forms]
                    kinds["lives" if rests[0] == rests[1] else "else"] += 1
                    self.differ(pair.one, other, asked)
        self.assertGreater(min(kinds.values()), 30, kinds)

    def test_differences_behind_many_things(self):
        # Of two ways to the difference only one fits into a box.
        def container(level):
            return box_of(*summing(450), bind("leaf"), bind("heavy", "heavy", "lazy h1", "plain sum"), bind("h1", "h1", "lazy h2", "plain sum"),
                          bind("h2", "h2", "lazy h3", "plain sum"), bind("h3", "h3", "lazy h4", "plain sum"), bind("h4", "h4", "lazy n", "plain sum"),
                          bind("light", "light", "lazy l1"), bind("l1", "l1", "lazy l2"), bind("l2", "l2", "lazy l3"), bind("l3", "l3", "lazy l4"),
                          bind("l4", "l4", "lazy l5"), bind("l5", "l5", "lazy n"), bind("n", level=level))

        for text in ("heavy {0}; light {0}", "light {0}; heavy {0}"):
            self.differ(container(None), container("app"), roots(text.format("app")))
            self.differ(container("app"), container("request"), roots(text.format("request")))
            self.differ(container(None), container("request"), roots(text.format("request")))

    def chain(self, name, steps, *wants):
        """Bindings of which each leads to the next one by a handle, the last one to n; each has these wants."""
        return [bind(f"{name}{at}", f"{name}{at}", f"lazy {name}{at + 1}" if at + 1 < steps else "lazy n", *wants) for at in range(steps)]

    def test_things_that_are_kept_on_the_way(self):
        # By their counts there are more things on the second way, but most of them are made once.
        rest = (
            *self.chain("x", 5, "plain more", "plain more"), *self.chain("y", 5, "plain pool"), bind("pool", "pool", "plain sum", level="app"),
            *summing(440), bind("leaf"), bind("more", "more", *["plain half"] * 5), bind("half", "half", *["plain tenth"] * 6),
            bind("tenth", "tenth", *["plain leaf"] * 6),
        )
        self.assertEqual([count_of(box_of(*rest), K(text)) for text in ("x0", "y0")], [433, 442])
        for text in ("x0 app; y0 app", "y0 app; x0 app"):
            for levels in ((None, "app"), ("app", None)):
                one, other = [box_of(*rest, bind("n", level=level)) for level in levels]
                self.differ(one, other, roots(text))

    def test_another_difference_fits_where_one_does_not(self):
        # What shows the one with fewer things takes too many of them in the other box.
        rest = (
            *self.chain("x", 4, "plain sum"), *self.chain("z", 3, "plain sum"), bind("last", "z3", "lazy m", "plain sum"), *summing(450), bind("leaf"),
            bind("fifty", "fifty", *["plain five"] * 5), bind("five", "five", *["plain leaf"] * 6), bind("wide", "wide", *["plain fifty"] * 5),
        )
        rest = tuple(bind("z2", "z2", "lazy z3", "plain sum") if part.name == "z2" else part for part in rest)
        one = box_of(*rest, bind("n", "n", *["plain fifty"] * 3), bind("m", "m", *["plain fifty"] * 4))
        other = box_of(*rest, bind("n", "n", *["plain fifty"] * 3, "plain wide"), bind("m", "m", *["plain fifty"] * 4, has_end=True))
        for first, second in ((one, other), (other, one)):
            self.differ(first, second, roots("x0 app; z0 app"))

    def test_the_ways_on_which_few_things_are_made(self):
        many = 0
        for seed in range(300):
            pair = Pairs(seed, levels=(10, 40)[seed % 2], wants=5)
            asked = tuple((key, "request") for key, _ in pair.roots)
            if check(pair.one, asked) is not None:
                continue
            chart = Chart(Finder(pair.one), asked)
            costs = [stop.cost for stop in chart.stops]
            self.assertEqual(costs, sorted(costs))
            many += len(costs) > 3
            for stop in chart.stops:
                run = Run(chart.finder)
                for step in stop.asking.steps_so_far():
                    run.take(step)
                self.assertEqual(len(run.state.things), stop.cost)
                self.assertIsNone(play(pair.one, tuple(run.commands))[1])
            first = {mark: min(stop.cost for stop in chart.stops if mark in stop.walk.reached) for mark in chart.first_reaching}
            self.assertEqual({mark: stop.cost for mark, stop in chart.first_reaching.items()}, first)
        self.assertGreater(many, 30)

    def test_things_that_are_asked_twice(self):
        for count in (400, 500):
            parts = summing(count - 2), [bind("leaf")], [bind("end", "end", "plain sum", "maybe n")]
            one, other = [layers_of(*parts, [bind("n", level=level)]) for level in (None, "app")]
            for text in ("end app", "end request", "end app; n app", "n app; end app"):
                self.differ(one, other, roots(text))

    def test_large_containers(self):
        one = box_of(*counting("lazy end"), bind("end"))
        for end, level in ((True, None), (False, "app")):
            other = box_of(*counting("lazy end"), bind("end", has_end=end, level=level))
            asked = roots(f"{number_text(229)} app")
            self.assertIs(separates(one, other, asked, alike(one, other, asked)), True)


class SeparatesTest(unittest.TestCase):
    def test_rows(self):
        one = box_of(bind("a", "a", "lazy b", level="app"), bind("b"), bind("c", "c", "lazy a"))
        other = box_of(bind("a", "a", "lazy b", level="app"), bind("b", level="app"), bind("c", "c", "lazy a"))
        asked = roots("a app; c request")
        ask, use, enter = ("ask", 1, K("a")), ("use", 1), ("enter", 1)
        for row, told in (
            ((), False), ((ask,), False), ((ask, use), False), ((ask, use, use), True), ((ask, use, use, ("close", 1)), True),
            ((enter, ask, ask, ("close", 2), use, use), True), ((enter, ("ask", 2, K("a")), use, use), True),
            ((enter, ("ask", 2, K("c")), ("close", 2), use), False), ((ask, use, use, ("use", 2)), False), ((ask, use, use, ("enter", 7)), False),
            ((ask, ("close", 1), use, use), False), ((ask, use, use, ("ask", 1, K("b"))), False), ((ask, use, use, ("ask", 1, K("c"))), False),
            ((enter, ask, use, use, ("ask", 2, K("c"))), True), ((enter, ask, use, use, ("ask", 3, K("c"))), False),
            ((ask, use, use, ("close", 2)), False), ((enter, enter, ask, use, use, ("close", 3), ("close", 2)), True),
            ((enter, enter, ask, use, use, ("ask", 3, K("c")), ("ask", 2, K("c"))), True), ((enter, enter, ask, use, use, ("ask", 4, K("c"))), False),
            ((enter, ask, use, use, ("close", 2), ("enter", 2)), False), ((enter, ask, use, use, ("enter", 2)), False),
        ):
            self.assertIs(separates(one, other, asked, row), told, row)
            self.assertIs(separates(other, one, asked, row), told, row)
            self.assertIs(separates(value=row, roots=asked, other=one, one=one), False)
        one, other = [box_of(bind("a", level=level), levels="app session request") for level in (None, "app")]
        for scope, told in ((1, False), (2, False), (3, False), (4, True), (5, False)):
            row = (enter, enter, ("enter", 2), ("ask", scope, K("a")))
            self.assertIs(separates(one, other, roots("a request"), row), told)

    def test_rows_that_one_box_alone_can_do(self):
        one, other = box_of(bind("a", "a", "lazy b"), bind("b")), box_of(bind("a"), bind("b"))
        for row in ((("ask", 1, K("a")), ("use", 1)), (("ask", 1, K("a")), ("use", 1), ("close", 1))):
            for first, second in ((one, other), (other, one)):
                self.assertIs(separates(first, second, roots("a app"), row), True)
                self.assertIs(separates(first, first, roots("a app"), row), False)
        row = (("ask", 1, K("a")), ("use", 1), ("use", 2))
        self.assertIs(separates(one, other, roots("a app"), row), False)

    def test_rows_of_other_lengths_of_logs(self):
        one, other = box_of(bind("a", "a", "plain b"), bind("b")), box_of(bind("a", "a", "plain b", "maybe b"), bind("b"))
        self.assertIs(separates(one, other, roots("a app"), (("ask", 1, K("a")),)), True)
        self.assertIs(separates(one, other, roots("a request"), (("ask", 1, K("a")),)), False)
        self.assertIs(separates(one, other, roots("a request"), (("enter", 1), ("ask", 2, K("a")))), True)
        self.assertIs(separates(one, other, roots("a app"), (("enter", 1), ("ask", 2, K("a")))), True)

    def test_bounds(self):
        one, other = box_of(bind("a"), *summing(500), bind("leaf")), box_of(bind("a", has_end=True), *summing(500), bind("leaf"))
        asked = roots("a app; sum app")
        rest = (("ask", 1, K("a")), ("close", 1))
        for many, told in ((99, True), (100, False)):
            self.assertIs(separates(one, other, asked, (("enter", 1),) * many + rest), told)
        for many, told in ((3, True), (4, False)):
            self.assertIs(separates(one, other, asked, (("ask", 1, K("sum")),) * many + rest), told)
        self.assertIs(separates(one, other, asked, rest + (("enter", 1),) * 100), False)
        # One of both passes the bounds where the other one does not.
        less = box_of(bind("a", "a", "lazy sum"), *summing(500), bind("leaf"))
        more = box_of(bind("a", "a", "lazy sum", "plain more"), *summing(500), bind("leaf"), bind("more"))
        row = (("ask", 1, K("a")),) + (("use", 1),) * 3
        self.assertIs(separates(less, more, roots("a app"), row), True)
        self.assertIs(separates(less, more, roots("a app"), row + (("use", 1),)), False)
        less, more = [box_of(bind("a", "a", "plain sum", *wants), *summing(498), bind("b"), bind("leaf"), bind("full", "full", "plain sum", "plain b"))
                      for wants in ((), ("plain b",))]
        asked = roots("full app; a app; b app")
        row = (("ask", 1, K("full")),) * 3 + (("ask", 1, K("a")),)
        for first, second in ((less, more), (more, less)):
            self.assertIs(separates(first, second, asked, row), True)
            self.assertIs(separates(first, second, asked, row + (("ask", 1, K("b")),)), False)

    def test_values_of_every_kind(self):
        one, other = box_of(bind("a")), box_of(bind("a", level="app"))
        row = (("ask", 1, K("a")), ("ask", 1, K("a")))
        self.assertIs(separates(one, other, (GOOD,), row), True)
        for value in OTHER_KINDS + (list(row), row[0], [], "row", Hostile()):
            self.assertIs(separates(one, other, (GOOD,), value), False)
        for value in bad_commands():
            for at in range(3):
                self.assertIs(separates(one, other, (GOOD,), row[:at] + (value,) + row[at:]), False)


class ErrorsTest(unittest.TestCase):
    calls = (alike, lambda one, other, roots: separates(one, other, roots, (("ask", 1, K("a")),)),
             lambda one, other, roots: separates(one, other, roots, Hostile()))

    def test_the_first_container(self):
        good, bad = box_of(bind("a")), layers_of()
        wrong = (bad, None, box_of(bind("a", failing=(1,))), layers_of(levels="app"), good)
        lines = [part.__class__(part.name, part.pattern, wants=tuple(("lazy", *want[1:]) for want in part.wants)) for part in counting()]
        for call in self.calls:
            for other in wrong:
                for value in OTHER_KINDS + ((good,), "a"):
                    for asked in ((GOOD,), (), None):
                        self.assertTrue(field_of(self, BadContainer, call, value, other, asked) is value)
                self.assertIsNone(field_of(self, BadRoots, call, good, other, ()))
                for value in NO_ROOTS:
                    self.assertEqual(field_of(self, BadRoots, call, bad, other, (GOOD, value, None)), 1)
                self.assertEqual(field_of(self, Unchecked, call, bad, other, (GOOD,)), ("Missing", (K("a"),), (("ask", 1, K("a")),)))
                self.assertEqual(field_of(self, Troubled, call, wrong[2], other, (GOOD,)), ("a",))
                self.assertEqual(field_of(self, TooMany, call, box_of(*lines), other, roots(f"{number_text(0)} app")), 300)

    def test_the_other_container(self):
        good = box_of(bind("a"))
        lines = [part.__class__(part.name, part.pattern, wants=tuple(("lazy", *want[1:]) for want in part.wants)) for part in counting()]
        for call in self.calls:
            for value in OTHER_KINDS + ((good,), "a", layers_of(levels="app"), layers_of(levels="request app"), box_of(bind("a"), levels="x"),
                                        layers_of(levels="app request more")):
                self.assertTrue(field_of(self, BadContainer, call, good, value, (GOOD,)) is value)
            self.assertEqual(field_of(self, Unchecked, call, good, layers_of(), (GOOD,))[0], "Missing")
            self.assertEqual(field_of(self, Troubled, call, good, box_of(bind("a", failing=(1,))), (GOOD,)), ("a",))
            asked = roots(f"{number_text(0)} app")
            self.assertEqual(field_of(self, TooMany, call, box_of(bind("n", "n[T, S]")), box_of(*lines), asked), 300)
        self.assertIsNone(alike(roots=(GOOD,), other=good, one=good))


class FactsTest(unittest.TestCase):
    def test_parts_that_belong_to_no_node_in_question(self):
        many = 0
        for seed in range(300):
            pair = Pairs(seed, levels=15)
            asked = tuple((key, "request") for key, _ in pair.roots)
            if check(pair.one, asked) is not None:
                continue
            many += 1
            used = {name for node in all_nodes(pair.one, asked) for name in (node[0], *node[2])}
            parent = None
            for home in pair.one.chain:
                layers = tuple(tuple(part for part in layer if part.name in used) for layer in home.layers)
                if any(layers):
                    parent = Container(home.levels, tuple(layer for layer in layers if layer), parent=parent)
            self.assertEqual(normal_form(parent, asked), normal_form(pair.one, asked))
            self.assertIsNone(alike(pair.one, parent, asked))
        self.assertGreater(many, 80)

    def test_names_of_variables_and_plain_for_maybe(self):
        def renamed(pattern):
            if isinstance(pattern, str):
                return chr(ord("Z") - ord(pattern) + ord("A"))
            return (pattern[0], tuple(renamed(part) for part in pattern[1]))

        def changed(part):
            settings = {"tag": part.tag, "has_end": part.has_end}
            if hasattr(part, "level"):
                settings["level"] = part.level
            wants = tuple(("maybe" if form == "plain" else form, renamed(pattern), tag) for form, pattern, tag in part.wants)
            return part.__class__(part.name, renamed(part.pattern), wants=wants, **settings)

        for seed in range(150):
            pair = Pairs(seed, levels=15, opened=40)
            asked = tuple((key, "request") for key, _ in pair.roots)
            if check(pair.one, asked) is None:
                self.assertIsNone(alike(pair.one, container_with(pair.one, changed), asked))

    def test_some_of_the_roots(self):
        many = 0
        for seed in range(200):
            pair = Pairs(seed, levels=15)
            asked = tuple((key, "request") for key, _ in pair.roots)
            other = pair.other(2)
            if len(asked) < 2 or check(pair.one, asked) is not None or check(other, asked) is not None:
                continue
            if alike(pair.one, other, asked) is None:
                many += 1
                for at in range(len(asked)):
                    self.assertIsNone(alike(pair.one, other, asked[:at] + asked[at + 1:]))
                    self.assertIsNone(alike(pair.one, other, asked[at:at + 1]))
        self.assertGreater(many, 20)

    def test_another_order(self):
        parts = bind("a", "a", "plain f[x]", "lazy b"), bind("b"), bind("f", "f[T]", "plain b"), bind("g", "f[x]"), wrap("w", "b"), wrap("v", "a")
        self.assertIsNone(alike(box_of(*parts), box_of(*parts[::-1]), roots("a app; b app")))
        self.assertIsNone(alike(box_of(*parts), box_of(*parts[2:], *parts[:2]), roots("a app; b app")))


if __name__ == "__main__":
    unittest.main()
