"""Points [74] and [75]: the texts of containers, and reading them."""

import re
import unittest

from tests.build import bind, box_of, field_of, layers_of, wrap
from tests.values import OTHER_KINDS
from tests.worlds import World
from wirebox.bindings import Binding, Wrapper
from wirebox.containers import Container
from wirebox.errors import BadContainer, BadModule, WireError
from wirebox.modules import container_text, read_container
from wirebox.patterns import pattern_text, read_pattern

FULL = layers_of(
    [bind("a", "map[text, list[T]]#x", "plain T", "maybe list[T]#y", "all b", "lazy map[T, T]", level="request", has_end=True,
          failing=(1, 20, 1000), bad_end=(7,)), bind("b"), wrap("w", "T", "lazy f[T]", has_end=True, bad_end=(1, 2))],
    [], [wrap("v", "b#x", failing=(3,)), bind("c", "c", level="app")],
    parent=layers_of(parent=layers_of([bind("d", has_end=True)])),
)
FULL_LINES = """levels app request
container
layer
binding d - ends - - d
container
container
layer
binding a request ends 1,20,1000 7 map[text, list[T]]#x
want plain T
want maybe list[T]#y
want all b
want lazy map[T, T]
binding b - - - - b
wrapper w ends - 1,2 T
want lazy f[T]
layer
layer
wrapper v - 3 - b#x
binding c app - - - c""".split("\n")


def lines_of(container):
    """The lines of the text of a container, put together in another way."""
    lines = ["levels"]
    for level in container.levels:
        lines[0] += f" {level}"
    for home in container.chain:
        lines += ["container"]
        for layer in home.layers:
            lines += ["layer"]
            for part in layer:
                row = [",".join(map(str, numbers)) or "-" for numbers in (part.failing, part.bad_end)]
                row = ["ends" if part.has_end else "-", *row, aim_text(part.pattern, part.tag)]
                kind = ["binding", part.name, part.level or "-"] if isinstance(part, Binding) else ["wrapper", part.name]
                lines.append(" ".join(kind + row))
                lines += [f"want {form} {aim_text(pattern, tag)}" for form, pattern, tag in part.wants]
    return lines


def aim_text(pattern, tag):
    return pattern_text(pattern) + (f"#{tag}" if tag else "")


NUMBERS = r"(-|\d+(?:,\d+)*)"
BINDING = re.compile(rf"binding (\S+) (\S+) (ends|-) {NUMBERS} {NUMBERS} ([^#]+)(?:#(\w+))?\Z")
WRAPPER = re.compile(rf"wrapper (\S+) (ends|-) {NUMBERS} {NUMBERS} ([^#]+)(?:#(\w+))?\Z")
WANT = re.compile(r"want (\w+) ([^#]+)(?:#(\w+))?\Z")


def numbers_of(text):
    return () if text == "-" else tuple(int(word) for word in text.split(","))


def told_by(lines):
    """The container of lines, if they are those of its text; otherwise an error of some kind is raised."""
    levels = tuple(lines[0].split(" ")[1:])
    chain = []
    for line in lines[1:]:
        binding, wrapper, want = BINDING.match(line), WRAPPER.match(line), WANT.match(line)
        if line == "container":
            chain.append([])
        elif line == "layer":
            chain[-1].append([])
        elif want:
            part = chain[-1][-1][-1]
            part[2]["wants"] += ((want[1], read_pattern(want[2]), want[3] or ""),)
        elif binding or wrapper:
            found = binding or wrapper
            at = 3 if binding else 2
            settings = {"has_end": found[at] == "ends", "failing": numbers_of(found[at + 1]), "bad_end": numbers_of(found[at + 2]),
                        "tag": found[at + 4] or "", "wants": ()}
            if binding:
                settings["level"] = None if found[2] == "-" else found[2]
            chain[-1][-1].append((Binding if binding else Wrapper, (found[1], read_pattern(found[at + 3])), settings))
        else:
            return "none"
    container = None
    for layers in chain:
        made = tuple(tuple(kind(*told, **settings) for kind, told, settings in layer) for layer in layers)
        container = Container(levels, made, parent=container)
    if container is None:
        Container(levels, ())
        return "levels" if lines[0].startswith("levels ") else "none"
    return container if lines_of(container) == lines else "none"


def bad_line(text):
    """The line that BadModule has to tell, None if the text is that of a container: each beginning is looked at."""
    lines = text.split("\n")
    for many in range(1, len(lines) + 1):
        try:
            found = told_by(lines[:many])
        except (WireError, LookupError, TypeError):
            return many
        if found == "none":
            return many
    return None if isinstance(found, Container) else len(lines) + 1


class TextTest(unittest.TestCase):
    def test_every_kind_of_line(self):
        self.assertEqual(container_text(FULL), "\n".join(FULL_LINES))
        self.assertEqual(container_text(container=layers_of(levels="app")), "levels app\ncontainer")
        self.assertEqual(container_text(layers_of([], levels="a b c d e")), "levels a b c d e\ncontainer\nlayer")
        self.assertEqual(container_text(FULL.parent), "levels app request\ncontainer\nlayer\nbinding d - ends - - d\ncontainer")

    def test_random_containers(self):
        for seed in range(150):
            container = World(seed, failing=50, opened=60).container()
            text = container_text(container)
            self.assertEqual(text.split("\n"), lines_of(container))
            self.assertEqual(read_container(text), container)
            self.assertEqual(len(read_container(text).chain), len(container.chain))

    def test_bad_containers(self):
        for value in OTHER_KINDS + (Container, "levels app\ncontainer", (layers_of(),), bind("a")):
            self.assertTrue(field_of(self, BadContainer, container_text, value) is value)


class ReadTest(unittest.TestCase):
    def refused(self, text, line):
        self.assertEqual(field_of(self, BadModule, read_container, text), line, text)

    def test_reading(self):
        found = read_container(text="\n".join(FULL_LINES))
        self.assertEqual(found, FULL)
        self.assertEqual([len(home.layers) for home in found.chain], [1, 0, 3])
        self.assertIsInstance(found.layers[0][2], Wrapper)
        self.assertEqual(read_container("levels a\ncontainer"), layers_of(levels="a"))

    def test_no_strings(self):
        for value in OTHER_KINDS + (FULL_LINES, b"levels app\ncontainer", tuple(FULL_LINES)):
            self.refused(value, 0)

    def test_beginnings(self):
        for many in range(1, len(FULL_LINES) + 1):
            text = "\n".join(FULL_LINES[:many])
            if many == 1:
                self.refused(text, 2)
            else:
                self.assertEqual(container_text(read_container(text)), text)
            self.refused(text + "\n", many + 1)
            self.refused(text + "\n\n", many + 1)
            self.refused("\n" + text, 1)
        self.refused("", 1)

    def test_bent_lines(self):
        for at, line in enumerate(FULL_LINES):
            others = {line + " ", " " + line, line.replace(" ", "  ", 1), line.upper() if line != line.upper() else line + "x", line[1:], line + "#", ""}
            others |= {line[:many] for many in range(0, len(line), 2)}
            others |= {line[:many] + sign + line[many:] for many in range(at % 2, len(line) + 1, 2) for sign in " ,1a"}
            for other in sorted(others - {line}):
                text = "\n".join(FULL_LINES[:at] + [other] + FULL_LINES[at + 1:])
                told = bad_line(text)
                if told is None:
                    self.assertEqual(container_text(read_container(text)), text)
                else:
                    self.refused(text, told)
                    self.assertGreater(told, at)

    def test_lines_told_twice_left_out_or_exchanged(self):
        kinds = set()
        for seed in range(6):
            lines = FULL_LINES if seed == 0 else lines_of(World(seed, failing=30, opened=60, wants=2).container())
            for at in range(len(lines)):
                for other in (lines[:at] + lines[at:at + 1] + lines[at:], lines[:at] + lines[at + 1:],
                              lines[:at] + lines[at + 1:at + 2] + lines[at:at + 1] + lines[at + 2:]):
                    text = "\n".join(other)
                    told = bad_line(text)
                    kinds.add(told is None)
                    if told is None:
                        self.assertEqual(container_text(read_container(text)), text)
                    else:
                        self.refused(text, told)
        self.assertEqual(kinds, {True, False})

    def test_levels(self):
        for line, is_right in (
            ("levels a", True), ("levels a b c d e", True), ("levels abcdefghijkl", True), ("levels", False), ("levels ", False), ("levels a ", False),
            ("levels a  b", False), ("levels a b c d e f", False), ("levels a a", False), ("levels A", False), ("levels abcdefghijklm", False),
            ("level a", False), (" levels a", False), ("levels -", False), ("levels 1", False), ("container", False), ("layer", False),
        ):
            if is_right:
                self.assertEqual(read_container(line + "\ncontainer").levels, tuple(line.split(" ")[1:]))
                self.refused(line, 2)
            else:
                self.refused(line, 1)
                self.refused(line + "\ncontainer", 1)

    def after(self, *lines):
        return "\n".join(("levels app request", "container", *lines))

    def test_lines_of_parts(self):
        for line, is_right in (
            ("binding a - - - - a", True), ("binding a app - - - a", True), ("binding a request ends 1,1000 2 f[T, S]#x", True),
            ("binding a session - - - a", False), ("binding a -- - - - a", False), ("binding a - end - - a", False), ("binding a - Ends - - a", False),
            ("binding a - - - 1 a", False), ("binding a - ends - 1 a", True), ("binding a - - 01 - a", False), ("binding a - - 1, - a", False),
            ("binding a - - ,1 - a", False), ("binding a - - 1,,2 - a", False), ("binding a - - 2,1 - a", False), ("binding a - - 1,1 - a", False),
            ("binding a - - 0 - a", False), ("binding a - - 1001 - a", False), ("binding a - - 1000 - a", True), ("binding a - - +1 - a", False),
            ("binding a - - -1 - a", False), ("binding a - - 1_0 - a", False), ("binding a - - 1.0 - a", False), ("binding a - - --  a", False),
            ("binding a - - - - ", False), ("binding a - - - -", False), ("binding a - - -", False), ("binding", False), ("binding a", False),
            ("binding A - - - - a", False), ("binding abcdefghijklm - - - - a", False), ("binding a - - - - f[a,b]", False),
            ("binding a - - - - f[a, b]", True), ("binding a - - - - f[a,  b]", False), ("binding a - - - - f[]", False), ("binding a - - - - a#", False),
            ("binding a - - - - a#T", False), ("binding a - - - - a#x#y", False), ("binding a - - - - a #x", False), ("binding a - - - - T", True),
            ("binding a - - - - f[f[f[T]]]", True), ("binding a - - - - f[f[f[f[T]]]]", False), ("binding a - - - - TT", False),
            ("binding a - ends - - - a", False), ("binding a - - - a", False), ("wrapper a - - - a", True), ("wrapper a ends 5 7,8 T#x", True),
            ("wrapper a app - - - a", False), ("wrapper a - - 1 a", False), ("wrapper a - - - - a", False), ("wrapper a - - a", False),
            ("wrapper a - - -", False), ("wrapper", False), ("part a - - - a", False), ("want plain a", False), ("want", False), ("", False),
        ):
            for lines in (("layer",), ("layer", "layer"), ("container", "layer"), ("layer", "binding q - - - - q", "want plain q")):
                text = self.after(*lines, line)
                if is_right:
                    self.assertEqual(container_text(read_container(text)), text)
                elif not (line.startswith("want ") and lines[-1].startswith("want")):
                    self.refused(text, len(lines) + 3)
            self.refused(self.after(line), 3)
            self.refused(line + "\ncontainer", 1)
            self.refused("levels app\n" + line, 2)

    def test_lines_of_wants(self):
        for line, is_right in (
            ("want plain T", True), ("want maybe S", True), ("want all f[T, S]#x", True), ("want lazy a", True), ("want plain U", False),
            ("want plain f[U]", False), ("want other a", False), ("want Plain a", False), ("want plain", False), ("want plain ", False), ("want  a", False),
            ("want a", False), ("wants plain a", False), ("want plain a b", False), ("want plain a#", False), ("want plain  a", False),
            ("want plain f[a,b]", False), ("want lazy f[f[f[f[a]]]]", False), ("want - a", False), ("want inner a", False),
        ):
            for part in ("binding a - - - - f[T, S]", "wrapper a - - - p[S, T, T]"):
                for many in (0, 5):
                    lines = ("layer", part) + ("want maybe T",) * many
                    text = self.after(*lines, line)
                    if is_right:
                        self.assertEqual(container_text(read_container(text)), text)
                    else:
                        self.refused(text, len(lines) + 3)
        for lines in ((), ("layer",), ("layer", "binding a - - - - a", "layer"), ("layer", "binding a - - - - a", "container"),
                      ("layer", "binding a - - - - a", "container", "layer")):
            self.refused(self.after(*lines, "want plain b"), len(lines) + 3)

    def test_one_too_many(self):
        part, want = "binding a - - - - a", "want plain a"
        names = [f"binding n{at} - - - - a#t{at}" for at in range(61)]
        for most, line, lines in (
            (6, "layer", []), (2, "container", []), (6, want, ["layer", part]), (60, None, ["layer"]), (30, None, ["layer", *names[30:60], "container", "layer"]),
            (0, names[60], ["layer", *names[:20], "container", "layer", *names[20:40], "container", "layer", *names[40:60]]),
        ):
            more = names[:most + 1] if line is None else [line] * (most + 1)
            if line is None and lines != ["layer"]:
                more[-1] = names[60]
            text = self.after(*lines, *more[:most])
            self.assertEqual(container_text(read_container(text)), text)
            self.refused(self.after(*lines, *more), 2 + len(lines) + most + 1)
            self.refused(self.after(*lines, *more, "nonsense"), 2 + len(lines) + most + 1)
        for many, line in ((20, None), (21, 4)):
            text = self.after("layer", f"binding a - - {','.join(str(at) for at in range(1, many + 1))} - a")
            if line is None:
                self.assertEqual(read_container(text).layers[0][0].failing, tuple(range(1, 21)))
            else:
                self.refused(text, line)

    def test_parts_that_do_not_stand_together(self):
        a = "binding a - - - - f[T]"
        for lines, line in (
            (("layer", a, "binding a - - - - b"), 5), (("layer", a, "layer", "wrapper a - - - b"), 6), (("layer", a, "container", "layer", a), 7),
            (("layer", a, "binding b - - - - f[S]"), 5), (("layer", a, "wrapper b - - - f[S]"), None), (("layer", a, "binding b - - - - f[S]#x"), None),
            (("layer", a, "layer", "binding b - - - - f[S]"), None), (("layer", a, "binding b - - - - f[a]"), None),
            (("layer", "binding p - - - - p[S, T]", "want plain a", "binding q - - - - p[T, S]"), 6),
            (("layer", a, "container", "container", "layer", "binding c - - - - c", "wrapper a - - - T"), 9),
        ):
            text = self.after(*lines)
            if line is None:
                self.assertEqual(container_text(read_container(text)), text)
            else:
                self.refused(text, line)
                self.refused(text + "\nlayer\n\n", line)
        self.assertEqual(read_container(self.after("layer", a)), box_of(bind("a", "f[T]")))
        self.assertEqual(read_container(self.after("layer", "wrapper a - - - f[T]")), box_of(wrap("a", "f[T]")))

    def test_other_signs(self):
        text = "\n".join(FULL_LINES)
        for other in (text.replace("\n", "\n\n"), text.replace("\n", " "), text + " ", "levels app request\ncontainer\nlayer\n# note", text.replace("-", "~")):
            self.refused(other, bad_line(other))
        self.refused(text.replace("\n", "\n\n"), 2)
        self.refused(text.replace("\n", " "), 1)


if __name__ == "__main__":
    unittest.main()
