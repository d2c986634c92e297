"""Point [50]: rows of commands, bare containers, and what boxes do by rows."""

import unittest

from tests.build import bind, box_of, field_of, layers_of, wrap
from tests.histories import KEYS
from tests.machine import Machine
from tests.test_log_rows import BAD, GOOD
from tests.test_resolving import counting, summing
from tests.values import OTHER_KINDS, Hostile
from tests.worlds import World
from wirebox.containers import Container
from wirebox.errors import BadContainer, BadRow, BoxError, WireError
from wirebox.rows import are_commands, bare, play
from wirebox.terms import read_key

K = read_key
FORMS = {"enter": ("count",), "ask": ("count", "key"), "use": ("count",), "close": ("count",)}


def first_command(word):
    return (word,) + tuple(GOOD[kind][0] for kind in FORMS[word])


def bad_commands():
    """Values that are no commands."""
    yield from OTHER_KINDS
    for word, kinds in FORMS.items():
        command = first_command(word)
        yield from (command + (1,), command + (None,), command[:-1], list(command), command[1:], (word.upper(),) + command[1:],
                    (word + "s",) + command[1:], (Hostile(),) + command[1:], (None,) + command[1:], (word,), word)
        for at, kind in enumerate(kinds, 1):
            for value in BAD[kind]:
                yield command[:at] + (value,) + command[at + 1:]
    yield from (("enter", 1, K("a")), ("ask", 1), ("ask", K("a"), 1), ("ask", K("a")), ("gave", 1), ("exchange",), ("exchange", 1))


class CommandsTest(unittest.TestCase):
    def test_commands(self):
        self.assertIs(are_commands(()), True)
        for word, kinds in FORMS.items():
            for at, kind in enumerate(kinds, 1):
                for value in GOOD[kind]:
                    command = first_command(word)[:at] + (value,) + first_command(word)[at + 1:]
                    self.assertIs(are_commands((command,)), True)
        self.assertIs(are_commands(value=tuple(first_command(word) for word in FORMS) * 40), True)
        self.assertIs(are_commands((("use", 77), ("close", 5), ("close", 5))), True)

    def test_what_is_none(self):
        good = tuple(first_command(word) for word in FORMS)
        for value in bad_commands():
            for many in (0, 2, 4):
                row = good[:many] + (value,) + good[many:]
                self.assertIs(are_commands(row), False)
                self.assertEqual(field_of(self, BadRow, play, layers_of(), row), many)
                self.assertEqual(field_of(self, BadRow, play, layers_of(), row + (None,)), many)
        for value in OTHER_KINDS + ([], list(good), good[0][:1], "enter"):
            if not isinstance(value, tuple):
                self.assertIs(are_commands(value), False)
                self.assertIsNone(field_of(self, BadRow, play, layers_of(), value))

    def test_bad_containers(self):
        for value in OTHER_KINDS + (Container, "a", (layers_of(),)):
            self.assertTrue(field_of(self, BadContainer, bare, value) is value)
            for row in ((), None, (None,), [], (("enter", 0),)):
                self.assertTrue(field_of(self, BadContainer, play, value, row) is value)


class BareTest(unittest.TestCase):
    def test_parts(self):
        wants = "plain b", "lazy f[T]#x"
        parts = bind("a", "f[T]#x", *wants, level="app", has_end=True), wrap("w", "f[T]", *wants, has_end=True), bind("b")
        worse = (bind("a", "f[T]#x", *wants, level="app", has_end=True, failing=(1, 5), bad_end=(3,)),
                 wrap("w", "f[T]", *wants, has_end=True, failing=(2,), bad_end=(1, 1000)), bind("b", failing=(9,)))
        for one, other in ((worse, parts), (parts, parts)):
            self.assertEqual(bare(box_of(*one)), box_of(*other))
            self.assertEqual(bare(layers_of(one[:1], [], one[1:])), layers_of(other[:1], [], other[1:]))
        self.assertEqual(bare(container=layers_of()), layers_of())

    def test_parents(self):
        def chain(**settings):
            first = layers_of([bind("a", has_end=True, **settings)], levels="x y z")
            second = layers_of([wrap("w", "a", has_end=True, **settings)], parent=first, levels="x y z")
            return layers_of([bind("b", **({"failing": settings["failing"]} if settings else {}))], parent=second, levels="x y z")

        found = bare(chain(failing=(1,), bad_end=(2,)))
        self.assertEqual(found, chain())
        self.assertEqual((found.levels, len(found.chain)), (("x", "y", "z"), 3))
        self.assertEqual(bare(bare(chain())), chain())

    def test_the_given_one_stays(self):
        part = bind("a", has_end=True, failing=(1,), bad_end=(1,))
        container = box_of(part)
        bare(container)
        self.assertEqual(container, box_of(bind("a", has_end=True, failing=(1,), bad_end=(1,))))

    def test_random_ones(self):
        for seed in range(60):
            container = World(seed, failing=50).container()
            for one, other in zip(container.chain, bare(container).chain):
                for layer, other_layer in zip(one.layers, other.layers):
                    for part, plain in zip(layer, other_layer):
                        self.assertEqual((plain.failing, plain.bad_end), ((), ()))
                        for name in ("__class__", "name", "pattern", "tag", "wants", "has_end"):
                            self.assertEqual(getattr(part, name), getattr(plain, name))
                        self.assertEqual(getattr(part, "level", 0), getattr(plain, "level", 0))


class PlayTest(unittest.TestCase):
    def stops(self, container, row, index, word, told):
        log, stop = play(container, row)
        self.assertEqual(stop, (index, word, told))
        if word != "Failed":
            self.assertEqual(play(container, row[:index]), (log, None))
        self.assertEqual(play(container, row[:index + 1]), (log, stop))

    def test_without_stop(self):
        container = box_of(bind("a", "a", "lazy b", level="app", has_end=True, bad_end=(1,)), bind("b"))
        row = (("enter", 1), ("ask", 2, K("a")), ("use", 1), ("close", 2), ("close", 1))
        self.assertEqual(play(row=row, container=container), ((
            ("entered", 2, 1), ("asked", 2, K("a")), ("made", 1, "a", K("a"), 1, (("handle", 1),)), ("gave", 1), ("used", 1),
            ("made", 2, "b", K("b"), 1, ()), ("gave", 2), ("closed", 2), ("ended", 2, None), ("ended", 1, False), ("closed", 1),
        ), None))
        self.assertEqual(play(container, ()), ((), None))

    def test_every_error(self):
        container = box_of(
            bind("a", "a", "lazy b", "lazy m"), bind("b", "b", "plain far"),
            bind("far", level="request"), bind("l", "p[T, x]"), bind("r", "p[x, T]"), bind("ring", "ring", "plain back"),
            bind("back", "back", "plain ring"), bind("deep", "d[T]", "plain d[d[T]]"), bind("lazy", "e[T]", "lazy e[d[T]]"),
            bind("fails", "fails", "plain b2", failing=(1,)), bind("b2", has_end=True), bind("k", "k", "lazy c", level="request"),
            bind("c"),
        )
        enter, a, k = ("enter", 1), ("ask", 1, K("a")), ("ask", 2, K("k"))
        for row, word, told in (
            ((("enter", 2),), "BadScope", 2), ((enter, ("enter", 2)), "NoLevel", "request"), ((("ask", 3, K("a")),), "BadScope", 3),
            ((("close", 2),), "BadScope", 2), ((enter, ("close", 2), ("close", 2)), "Closed", 2), ((("use", 1),), "BadHandle", 1),
            ((a, ("use", 3)), "BadHandle", 3), ((enter, k, ("close", 2), ("use", 1)), "Closed", 1),
            ((("close", 1), ("ask", 1, K("a"))), "Closed", 1), ((("ask", 1, K("z")),), "Missing", (K("z"),)),
            ((a, ("use", 2)), "Missing", (K("m"),)), ((("ask", 1, K("p[x, x]")),), "Ambiguous", ("l", "r")),
            ((a, ("use", 1)), "Captive", (K("b"), K("far"))), ((("ask", 1, K("back")),), "Ring", (K("back"), K("ring"), K("back"))),
            ((("ask", 1, K("d[d[x]]")),), "TooDeep", (K("d[d[x]]"), K("d[d[d[x]]]"))),
            ((("ask", 1, K("e[d[d[x]]]")), ("use", 1)), "TooDeep", (K("e[d[d[x]]]"),)),
            ((("ask", 1, K("fails")),), "Failed", "fails"), ((("ask", 1, K("b2")), ("ask", 1, K("fails"))), "Failed", "fails"),
        ):
            self.stops(container, row + (("close", 1), ("enter", 9)), len(row) - 1, word, told)

    def test_failing_counts(self):
        container = box_of(bind("a", "a", "plain b", failing=(2,)), bind("b", has_end=True, bad_end=(1,)))
        log, stop = play(container, (("ask", 1, K("a")),) * 3)
        self.assertEqual(stop, (1, "Failed", "a"))
        self.assertEqual(log[-3:], (("made", 3, "b", K("b"), 1, ()), ("failed", "a", K("a"), 1, 2), ("ended", 3, False)))
        self.assertIsNone(play(bare(container), (("ask", 1, K("a")),) * 3)[1])
        self.assertEqual(play(container, (("ask", 1, K("b")), ("close", 1)))[0][-2], ("ended", 1, False))

    def test_bounds(self):
        self.stops(layers_of(), (("enter", 1),) * 101, 99, "TooMany", 100)
        container = box_of(*summing(500), bind("leaf"), *counting())
        self.assertEqual(play(container, (("ask", 1, K("sum")),))[1], None)
        self.stops(container, (("ask", 1, K("sum")),) * 9, 4, "TooMany", 2000)
        self.stops(box_of(*summing(501), bind("leaf")), (("ask", 1, K("sum")),), 0, "TooMany", 500)
        self.stops(container, (("ask", 1, K("n[p[z, z, z], p[z, z, z]]")),), 0, "TooMany", 500)

    def test_against_the_machine(self):
        words = {}
        for seed in range(250):
            world = World(seed, failing=(0, 50)[seed % 2], faults=(5, 30)[seed % 3 == 0], levels=40, opened=30, floor=80)
            container, draw = world.container(), world.random
            row = (("enter", 1),)
            for _ in range(12):
                row += (draw.choice((("enter", draw.randrange(1, 4)), ("ask", draw.randrange(1, 4), draw.choice(KEYS)),
                                     ("ask", draw.randrange(1, 4), draw.choice(KEYS)), ("use", draw.randrange(1, 4)),
                                     ("close", draw.randrange(1, 9)))),)
            machine, stop = Machine(container), None
            for index, command in enumerate(row):
                try:
                    getattr(machine, command[0])(*command[1:])
                except (BoxError, WireError) as error:
                    stop = (index, error.__class__.__name__, list(vars(error).values())[0])
                    break
            words[None if stop is None else stop[1]] = True
            self.assertEqual(play(container, row), (tuple(machine.log), stop))
        self.assertTrue({"BadScope", "BadHandle", "Captive", "Missing", "Closed", "Failed"} <= set(words), words)


if __name__ == "__main__":
    unittest.main()
