"""Pairs of small random containers that differ in a few things, mostly fit for roots, from a given seed."""

from tests.build import aim
from tests.worlds import GROUND, LEVELS, OPEN, World
from wirebox.bindings import Binding
from wirebox.errors import BadPart, Twice
from wirebox.rebuilding import container_with
from wirebox.rows import bare
from wirebox.terms import read_key

WHATS = ("level", "level", "level", "end", "form", "form", "more", "fewer", "want")


class Pairs:
    """Makes a container with roots, and others that differ from it in little."""

    def __init__(self, seed, **settings):
        self.world = World(seed, **{"opened": 15, "faults": 0, "floor": 95, "wants": 3, "levels": 30, "ends": 30, **settings})
        self.draw = self.world.random
        self.one = bare(self.world.container(self.draw.choice((1, 1, 2))))
        texts = self.draw.sample(GROUND[:7], self.draw.randrange(1, 4))
        self.roots = tuple((read_key(text), self.draw.choice(("request", "request", "session", "app"))) for text in texts)

    def names(self):
        return [part.name for home in self.one.chain for layer in home.layers for part in layer]

    def other(self, many=1, *whats):
        """A container in which at most so many parts are otherwise, in one of some ways."""
        chosen = self.draw.sample(self.names(), min(many, len(self.names())))
        try:
            return container_with(self.one, lambda part: self.changed(part, whats or WHATS) if part.name in chosen else part)
        except (Twice, BadPart):
            return self.other(many)

    def changed(self, part, whats):
        draw = self.draw
        settings = {"tag": part.tag, "wants": part.wants, "has_end": part.has_end}
        if isinstance(part, Binding):
            settings["level"] = part.level
        what = draw.choice(whats)
        if what == "level" and isinstance(part, Binding):
            settings["level"] = draw.choice((None, *LEVELS))
        elif what == "aim":
            pattern, settings["tag"] = aim(draw.choice(GROUND + OPEN + OPEN))
            return part.__class__(part.name, pattern, **settings)
        elif what == "end":
            settings["has_end"] = not part.has_end
        elif what == "more" and len(part.wants) < 6:
            settings["wants"] = part.wants + ((draw.choice(("maybe", "all", "lazy")), *aim(draw.choice(GROUND[5:]))),)
        elif part.wants:
            at = draw.randrange(len(part.wants))
            form, pattern, tag = part.wants[at]
            if what == "form":
                form = draw.choice(("plain", "maybe", "all", "lazy"))
            elif what == "want":
                pattern, tag = aim(draw.choice(GROUND[5:]))
            new = ((form, pattern, tag),) if what != "fewer" else ()
            settings["wants"] = part.wants[:at] + new + part.wants[at + 1:]
        return part.__class__(part.name, part.pattern, **settings)
