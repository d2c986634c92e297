"""Random histories of boxes, each from a given seed, with the calls that were not refused."""

from tests.worlds import GROUND, World
from wirebox.boxes import Box
from wirebox.errors import BoxError, WireError
from wirebox.exchanges import exchange
from wirebox.terms import read_key

KEYS = tuple(read_key(text) for text in GROUND)
WHATS = ("enter", "enter", "ask", "ask", "ask", "ask", "use", "use", "use", "close", "close", "exchange")


def do(box, call, container=None):
    """Do a call of the form that calls_of tells; whether it has rows."""
    before = len(box.log)
    try:
        if call[0] == "exchange":
            exchange(box, container)
        else:
            getattr(box, call[0])(*call[1:])
    except (BoxError, WireError):
        pass
    return len(box.log) > before


class History:
    """What was done: the containers, the calls, and the log with the places at which nothing is due."""

    def __init__(self, seed, *, steps=25, exchanging=True, whats=WHATS, **settings):
        settings = {"faults": 2, "opened": 20, "floor": 90, **settings}
        world = World(seed, **settings)
        draw = world.random
        self.containers = (world.container(),)
        self.calls = []
        self.ends = {0}
        box = Box(self.containers[0])
        for call in (("enter", 1), ("enter", 2)):
            self.note(box, call)
        for _ in range(steps):
            what = draw.choice(whats)
            scope = draw.choice((box.scopes or (1,))[-4:])
            handles = sum(row[0] == "made" and sum(isinstance(told, tuple) and told[:1] == ("handle",) for told in row[5])
                          for row in box.log)
            if what == "exchange":
                if exchanging:
                    self.containers += (world.variant(box.container),)
                    self.note(box, ("exchange",), self.containers[-1])
            elif what == "ask":
                self.note(box, ("ask", scope, draw.choice(KEYS)))
            elif what == "use":
                self.note(box, ("use", draw.randrange(1, handles + 2)))
            else:
                self.note(box, (what, max(scope, 2) if what == "close" and draw.randrange(9) else scope))
        self.log = box.log
        self.box = box

    def note(self, box, call, container=None):
        if do(box, call, container):
            self.calls.append(call)
            self.ends.add(len(box.log))
            if call[0] == "close":
                self.ends |= {at + 1 for at, row in enumerate(box.log) if row[0] == "closed"}
