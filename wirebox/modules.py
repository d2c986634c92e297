"""The texts of containers."""

from wirebox.bindings import Binding, Wrapper
from wirebox.containers import Container, need_container
from wirebox.errors import BadModule, WireError
from wirebox.patterns import VARIABLES
from wirebox.rebuilding import part_with
from wirebox.terms import Reader, tagged_text

DIGITS = "0123456789"
MOST_DIGITS = 4


def numbers_text(numbers):
    """The text of a tuple of numbers."""
    return ",".join([str(number) for number in numbers]) if len(numbers) > 0 else "-"


def ends_text(part):
    """The words of a part for its end and its failing and bad endings."""
    ends = "ends" if part.has_end else "-"
    return f"{ends} {numbers_text(part.failing)} {numbers_text(part.bad_end)}"


def part_line(part):
    """The line of a part, without its wants."""
    aim = tagged_text(part.pattern, part.tag)
    if isinstance(part, Wrapper):
        return f"wrapper {part.name} {ends_text(part)} {aim}"
    life = "-" if part.level is None else part.level
    return f"binding {part.name} {life} {ends_text(part)} {aim}"


def want_line(want):
    """The line of a want."""
    form, pattern, tag = want
    return f"want {form} {tagged_text(pattern, tag)}"


def container_text(container):
    """The text of a container."""
    need_container(container)
    lines = ["levels " + " ".join(container.levels)]
    for home in container.chain:
        lines.append("container")
        for layer in home.layers:
            lines.append("layer")
            for part in layer:
                lines.append(part_line(part))
                lines.extend([want_line(want) for want in part.wants])
    return "\n".join(lines)


def aim_of(text):
    """The pattern and the tag of a text; BadText if it has none."""
    reader = Reader(text, VARIABLES)
    pattern = reader.read_shape(1)
    tag = reader.read_tag()
    reader.finish()
    return (pattern, tag)


def numbers_of(text):
    """The numbers of which a text tells, maybe written otherwise; None, which no part can have, for other texts."""
    if text == "-":
        return ()
    numbers = []
    for word in text.split(","):
        if len(word) == 0 or len(word) > MOST_DIGITS or not all([sign in DIGITS for sign in word]):
            return None
        numbers.append(int(word))
    return tuple(numbers)


def wrapper_of(words):
    """The wrapper of the words of a line, without wants."""
    pattern, tag = aim_of(" ".join(words[5:]))
    failing, bad_end = numbers_of(words[3]), numbers_of(words[4])
    return Wrapper(words[1], pattern, tag=tag, has_end=words[2] == "ends", failing=failing, bad_end=bad_end)


def binding_of(words):
    """The binding of the words of a line, without wants."""
    pattern, tag = aim_of(" ".join(words[6:]))
    failing, bad_end = numbers_of(words[4]), numbers_of(words[5])
    level = None if words[2] == "-" else words[2]
    has_end = words[3] == "ends"
    return Binding(words[1], pattern, tag=tag, level=level, has_end=has_end, failing=failing, bad_end=bad_end)


class Loader:
    """Takes the lines of the text of a container one after the other.

    Each beginning of such a text that tells of a container is a whole one, so what is told so far is enough to look at.
    """

    def __init__(self):
        self.levels_told = None
        self.outer = None
        # The layers of the last container as lists, None if there is none.
        self.layers_told = None

    def whole(self):
        """The container that is told so far."""
        layers = tuple([tuple(layer) for layer in self.layers_told])
        return Container(self.levels_told, layers, parent=self.outer)

    def can_take(self, line):
        """Take the next line, and tell whether the text of some container goes on so."""
        try:
            return self.take(line)
        except WireError:
            return False

    def take(self, line):
        """Take the next line; a line that cannot stand is told by False or by some error."""
        words = line.split(" ")
        if self.levels_told is None:
            return self.take_levels(words)
        if line == "container":
            return self.take_container()
        if self.layers_told is None:
            return False
        if line == "layer":
            self.layers_told.append([])
            self.whole()
            return True
        if len(self.layers_told) == 0:
            return False
        if words[0] == "want":
            return self.take_want(line, words)
        return self.take_part(line, words)

    def take_levels(self, words):
        """Take the line of the levels."""
        self.levels_told = tuple(words[1:])
        Container(self.levels_told, ())
        return words[0] == "levels"

    def take_container(self):
        """Begin a container."""
        if self.layers_told is not None:
            self.outer = self.whole()
        self.layers_told = []
        self.whole()
        return True

    def take_part(self, line, words):
        """Take the line of a part."""
        if words[0] == "binding" and len(words) > 6:
            part = binding_of(words)
        elif words[0] == "wrapper" and len(words) > 5:
            part = wrapper_of(words)
        else:
            return False
        self.layers_told[-1].append(part)
        self.whole()
        return part_line(part) == line

    def take_want(self, line, words):
        """Take the line of a want, which is one of the last part of the layer."""
        if len(self.layers_told[-1]) == 0 or len(words) < 3:
            return False
        pattern, tag = aim_of(" ".join(words[2:]))
        want = (words[1], pattern, tag)
        part = self.layers_told[-1].pop()
        wants = part.wants + (want,)
        self.layers_told[-1].append(part_with(part, wants=wants, failing=part.failing, bad_end=part.bad_end))
        return want_line(want) == line


def read_container(text):
    """The container that has this text."""
    if not isinstance(text, str):
        raise BadModule(0)
    lines = text.split("\n")
    loader = Loader()
    for index, line in enumerate(lines):
        if not loader.can_take(line):
            raise BadModule(index + 1)
    if loader.layers_told is None:
        raise BadModule(len(lines) + 1)
    return loader.whole()
