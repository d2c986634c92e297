"""Small random containers, from a given seed."""

import random

from tests.build import aim
from wirebox.bindings import Binding, Wrapper
from wirebox.containers import Container
from wirebox.errors import SameName, Twice
from wirebox.patterns import variables_of

GROUND = ("a", "b", "c", "d", "f[a]", "f[b]", "p[a, b]", "p[a, a]", "p[b, a]", "a#x", "f[a]#x", "f[f[a]]")
OPEN = ("T", "f[T]", "p[S, T]", "p[T, T]", "p[a, T]", "p[T, a]", "p[T, b]", "f[T]#x", "T#x", "f[f[T]]")
LEVELS = ("app", "session", "request")


class World:
    """Makes containers; each of the settings tells how often something is so, of 100 times."""

    def __init__(self, seed, *, opened=40, levels=40, failing=0, ends=50, wants=3, faults=10, floor=0):
        self.random = random.Random(seed)
        self.settings = {
            "opened": opened, "levels": levels, "failing": failing, "ends": ends, "wants": wants, "faults": faults, "floor": floor,
        }
        self.made = 0

    def is_so(self, name):
        return self.random.randrange(100) < self.settings[name]

    def key_text(self):
        return self.random.choice(GROUND)

    def wish(self, pattern, below):
        """A want, mostly of what stands further down, so that rings are few."""
        letters = variables_of(pattern)
        form = self.random.choice(("plain", "plain", "maybe", "all", "lazy"))
        if self.is_so("faults"):
            below = GROUND
        text = self.random.choice(below)
        if letters and self.random.randrange(3) == 0:
            text = self.random.choice(("T", "f[T]", "p[a, T]", "f[f[T]]")).replace("T", letters[0])
        return (form, *aim(text))

    def part(self, kind, place=None):
        self.made += 1
        if place is None:
            place = self.random.randrange(len(GROUND) - 1)
            pattern, tag = aim(self.random.choice(OPEN) if self.is_so("opened") else GROUND[place])
        else:
            pattern, tag = aim(GROUND[place])
        below = GROUND[place + 1:]
        wants = tuple(self.wish(pattern, below) for _ in range(self.random.randrange(self.settings["wants"] + 1)) if below)
        settings = {"tag": tag, "wants": wants, "has_end": self.is_so("ends")}
        if self.is_so("failing"):
            settings["failing"] = tuple(sorted(self.random.sample(range(1, 6), self.random.randrange(1, 3))))
        if settings["has_end"] and self.random.randrange(3) == 0:
            settings["bad_end"] = tuple(sorted(self.random.sample(range(1, 5), self.random.randrange(1, 3))))
        if kind is Binding and self.is_so("levels"):
            settings["level"] = self.random.choice(LEVELS)
        return kind(f"{'b' if kind is Binding else 'w'}{self.made}", pattern, **settings)

    def layer(self, bindings, wrappers):
        parts = []
        for kind in self.random.sample([Binding] * bindings + [Wrapper] * wrappers, bindings + wrappers):
            part = self.part(kind)
            try:
                Container(LEVELS, (tuple(parts) + (part,),))
            except Twice:
                continue
            parts.append(part)
        return tuple(parts)

    def container(self, depth=None):
        """A container of a chain of this length."""
        depth = depth or self.random.choice((1, 1, 2, 3))
        found = None
        for _ in range(depth):
            layers = tuple(self.layer(self.random.randrange(7), self.random.randrange(3)) for _ in range(self.random.randrange(1,
                4)))
            if found is None:
                # The floor has bindings for many keys, so that less is missing.
                floor = tuple(self.part(Binding, place) for place in range(len(GROUND)) if self.is_so("floor"))
                layers = (floor, *layers[:2])
            found = Container(LEVELS, layers, parent=found)
        return found

    def variant(self, container):
        """A container that is like the given one but for a few parts."""
        parent = None if container.parent is None else self.variant(container.parent)
        layers = [tuple(self.changed(part) for part in layer if self.random.randrange(12)) for layer in container.layers]
        try:
            return Container(LEVELS, tuple(layers), parent=parent)
        except (Twice, SameName):
            return self.variant(container)

    def changed(self, part):
        settings = {"tag": part.tag, "wants": part.wants, "has_end": part.has_end, "failing": part.failing, "bad_end": part.bad_end}
        if isinstance(part, Binding):
            settings["level"] = part.level
        what = self.random.randrange(24)
        if what == 0:
            settings["has_end"], settings["bad_end"] = not part.has_end, ()
        elif what == 1 and isinstance(part, Binding):
            settings["level"] = self.random.choice((None, *LEVELS))
        elif what == 2:
            settings["wants"] = part.wants[:-1]
        elif what == 3:
            settings["wants"] = tuple(("maybe" if want[0] == "plain" else want[0], *want[1:]) for want in part.wants)
        elif what == 4 and len(part.wants) < 6:
            settings["wants"] = part.wants + (("maybe", *aim(self.key_text())),)
        return part.__class__(part.name, part.pattern, **settings)
