"""What holds over the whole program: files that tell of the same things agree, and parameters have their documented names."""

import unittest

from tests.build import bind, box_of, wrap
from tests.histories import KEYS, History, do
from tests.pairs import Pairs
from tests.test_calls import done
from wirebox import (
    bindings, boxes, causes, checking, choosing, containers, exchanges, forms, lazies, likeness, logs, modules, nodes, papers, patterns, plans, rows,
    terms, words,
)
from wirebox.boxes import Box
from wirebox.errors import BoxError, WireError
from wirebox.exchanges import exchange
from wirebox.logs import audit, calls_of
from wirebox.modules import container_text, read_container
from wirebox.plans import plan
from wirebox.rows import play
from wirebox.terms import read_key

K = read_key


def outcome(call, *told, **named):
    try:
        return call(*told, **named)
    except (BoxError, WireError) as error:
        return (error.__class__.__name__, vars(error))


class WholeTest(unittest.TestCase):
    def test_containers_that_are_read_back_have_the_same_logs(self):
        for seed in range(60):
            history = History(seed, failing=30)
            copies = tuple(read_container(container_text(container)) for container in history.containers)
            self.assertEqual(copies, history.containers)
            box = done(copies, history.calls)
            self.assertEqual(box.log, history.log)
            self.assertIsNone(audit(copies, history.log))
            for one, other in zip(history.containers, copies):
                for home, copy in zip(one.chain, other.chain):
                    self.assertEqual((home.levels, home.layers), (copy.levels, copy.layers))

    def test_logs_and_calls(self):
        for seed in range(60):
            history = History(seed, failing=(0, 40)[seed % 2])
            self.assertIsNone(audit(history.containers, history.log))
            self.assertEqual(done(history.containers, calls_of(history.log)).log, history.log)

    def test_rows_that_are_played_are_logs(self):
        for seed in range(60):
            history = History(seed, failing=0, exchanging=False)
            row = tuple(calls_of(history.log))
            self.assertEqual(play(history.containers[0], row), (history.log, None))

    def test_plans_are_what_asking_puts_into_the_log(self):
        for seed in range(60):
            history = History(seed, failing=30)
            box = history.box
            for scope in box.scopes:
                for key in KEYS:
                    twin = box.twin()
                    told = outcome(plan, box, scope, key)
                    before = len(box.log)
                    after = outcome(twin.ask, scope, key)
                    if len(twin.log) > before:
                        self.assertEqual(twin.log[before:], (("asked", scope, key),) + told)
                    else:
                        self.assertEqual(told, after)

    def test_an_exchange_for_an_equal_container_puts_nothing_away(self):
        for seed in range(60):
            history = History(seed, failing=30)
            box = history.box
            before = box.log
            self.assertEqual(exchange(box, read_container(container_text(box.container))), ())
            self.assertEqual(box.log, before + (("exchanged",),))

    def test_least_causes_and_exchanges(self):
        for seed in range(40):
            pair = Pairs(seed)
            other = pair.other(3)
            box = Box(pair.one)
            for key in KEYS[:6]:
                do(box, ("ask", 1, key))
            stale = exchanges.stale_things(box, other)
            for number in box.things_in(1):
                cause = causes.least_cause(box, other, number)
                if number in stale:
                    self.assertIsNotNone(cause)
                if cause is not None:
                    self.assertIn(number, exchanges.stale_things(box, causes.mixture(pair.one, other, cause)))


class NamesTest(unittest.TestCase):
    def test_all_arguments_by_their_names_in_any_order(self):
        container = box_of(bind("a", "a", "lazy b", "plain b", level="app"), bind("b"), wrap("w", "a"))
        other = box_of(bind("a", "a", "lazy b", "plain b", level="app"), bind("b", has_end=True), wrap("w", "a"))
        box, key, node = Box(container), K("a"), ("a", K("a"), ("w",))
        box.ask(1, key)
        pattern, term, asked, part = ("f", ("T",)), ("f", (("a", ()),)), ((key, "app"),), bind("b")
        for call, named in (
            (words.is_integer, {"value": 1}), (words.is_word, {"value": "a"}), (words.is_tag, {"value": ""}), (words.need_word, {"value": "a"}),
            (terms.is_term, {"value": term}), (terms.is_key, {"value": key}), (terms.depth_of, {"term": term}), (terms.size_of, {"term": term}),
            (terms.term_text, {"term": term}), (terms.key_text, {"key": key}), (terms.read_term, {"text": "a"}), (terms.read_key, {"text": "a"}),
            (patterns.is_pattern, {"value": "T"}), (patterns.pattern_text, {"pattern": "T"}), (patterns.read_pattern, {"text": "T"}),
            (patterns.variables_of, {"pattern": pattern}), (patterns.match, {"pattern": pattern, "term": term}),
            (patterns.put_in, {"pattern": pattern, "substitution": {"T": term}}), (patterns.is_as_special, {"one": pattern, "other": term}),
            (patterns.are_alike, {"one": pattern, "other": term}), (patterns.meet, {"one": pattern, "other": term}),
            (bindings.is_for, {"part": part, "key": K("b")}), (bindings.wanted, {"part": part, "key": K("b")}),
            (bindings.Wrapper, {"name": "a", "pattern": "T", "tag": "", "wants": (), "has_end": True, "failing": (), "bad_end": (1,)}),
            (bindings.Binding, {"name": "a", "pattern": "T", "tag": "", "level": None, "wants": (), "has_end": True, "failing": (1,), "bad_end": ()}),
            (containers.Container, {"levels": ("app", "request"), "layers": (), "parent": container}),
            (container.part, {"name": "a"}), (container.home, {"name": "a"}),
            (choosing.choose, {"container": container, "key": key}), (choosing.gather, {"container": container, "key": key}),
            (choosing.wrapping, {"container": container, "key": key}), (papers.paper, {"container": container, "key": key}),
            (papers.is_paper, {"container": container, "key": key, "value": ()}), (papers.apart, {"one": container, "other": other}),
            (nodes.node_of, {"container": container, "key": key}), (nodes.level_of_node, {"container": container, "node": node}),
            (nodes.wanted_by, {"container": container, "node": node}), (nodes.resolved, {"container": container, "key": key, "level": "app"}),
            (nodes.count_of, {"container": container, "key": key}), (plans.plan, {"box": box, "scope": 1, "key": key}),
            (box.enter, {"scope": 1}), (box.ask, {"scope": 1, "key": key}), (box.level_at, {"scope": 1}), (box.things_in, {"scope": 1}),
            (box.kept_at, {"scope": 1, "node": node}), (box.thing, {"number": 1}), (box.lives, {"number": 1}), (box.holders_of, {"number": 1}),
            (box.attempts_of, {"name": "a"}), (box.endings_of, {"name": "a"}), (box.use, {"handle": 1}), (box.handle_of, {"handle": 1}),
            (logs.is_log_row, {"value": ("gave", 1)}), (logs.audit, {"containers": (container,), "log": box.log}), (logs.calls_of, {"log": box.log}),
            (rows.are_commands, {"value": ()}), (rows.bare, {"container": container}), (rows.play, {"container": container, "row": ()}),
            (checking.are_roots, {"container": container, "value": asked}), (checking.check, {"container": container, "roots": asked}),
            (lazies.fewest_lazies, {"container": container, "roots": asked}), (lazies.made_lazy, {"container": container, "changes": (("a", 1),)}),
            (lazies.rings_of, {"container": container, "roots": asked}), (lazies.is_ring, {"container": container, "value": ()}),
            (forms.normal_form, {"container": container, "roots": asked}), (forms.holdings, {"container": container, "roots": asked}),
            (likeness.alike, {"one": container, "other": other, "roots": asked}),
            (likeness.separates, {"one": container, "other": other, "roots": asked, "value": ()}),
            (exchanges.comes_otherwise, {"one": container, "other": other, "node": node}),
            (exchanges.stale_things, {"box": box, "container": other}), (exchanges.stale_paper, {"box": box, "container": other}),
            (exchanges.exchange, {"box": box, "container": container}), (causes.differing, {"one": container, "other": other}),
            (causes.mixture, {"one": container, "other": other, "names": ("b",)}), (causes.least_cause, {"box": box, "other": other, "number": 1}),
            (modules.container_text, {"container": container}), (modules.read_container, {"text": "levels a\ncontainer"}),
            (boxes.Box, {"container": container}), (box.close, {"scope": 1}),
        ):
            found = call(**dict(reversed(list(named.items()))))
            if call not in (box.enter, box.ask, box.use, box.close) and call.__name__ not in ("plan", "audit", "exchange", "Box"):
                self.assertEqual(found, call(**named))
            if call is bindings.Binding or call is bindings.Wrapper:
                self.assertEqual(call("a", "T", has_end=True, failing=found.failing, bad_end=found.bad_end), found)
                with self.assertRaises(TypeError):
                    call("a", "T", "")
        with self.assertRaises(TypeError):
            containers.Container(("app",), (), None)

    def test_what_the_interface_lists_is_defined_where_it_lists_it(self):
        listed = {
            words: "is_integer is_word is_tag need_word", terms: "is_term is_key depth_of size_of term_text key_text read_term read_key",
            patterns: "is_pattern pattern_text read_pattern variables_of match put_in is_as_special are_alike meet",
            bindings: "Binding Wrapper is_for wanted", containers: "Container", choosing: "choose gather wrapping", papers: "paper is_paper apart",
            nodes: "node_of level_of_node wanted_by resolved count_of", boxes: "Box", plans: "plan", logs: "is_log_row audit calls_of",
            rows: "are_commands bare play", checking: "are_roots check", lazies: "fewest_lazies made_lazy rings_of is_ring",
            forms: "normal_form holdings", likeness: "alike separates", exchanges: "comes_otherwise stale_things exchange stale_paper",
            causes: "differing mixture least_cause", modules: "container_text read_container",
        }
        for module, names in listed.items():
            for name in names.split():
                self.assertEqual(getattr(module, name).__module__, module.__name__, name)
        methods = "enter ask level_at things_in kept_at thing lives holders_of attempts_of twin container log scopes close use handle_of endings_of"
        for kind, names in ((Box, methods), (containers.Container, "levels layers parent chain part home __eq__"),
                            (bindings.Binding, "name pattern tag level wants has_end failing bad_end __eq__"),
                            (bindings.Wrapper, "name pattern tag wants has_end failing bad_end __eq__")):
            for name in names.split():
                self.assertIn(name, vars(kind), name)
        self.assertEqual((bindings.FORMS, terms.MOST_DEPTH, terms.MOST_SIZE), (("plain", "maybe", "all", "lazy"), 4, 12))


if __name__ == "__main__":
    unittest.main()
