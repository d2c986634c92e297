"""The askings of a fit container by which few things are made, and what each of them reaches."""

from wirebox.askings import askings_behind, root_askings
from wirebox.finding import mark_of
from wirebox.walking import Walk


class Stop:
    """An asking, what it reaches, and how many things are made on the way to it and by it.

    On this way there is one scope of each level, so of each node with a level one thing is made at most.
    """

    def __init__(self, asking, walk, lasting):
        self.asking = asking
        self.walk = walk
        # By mark of each reached node with a level, how many things are made for its thing.
        self.lasting = lasting
        self.cost = None
        self.kept_before = None

    def cost_behind(self, kept):
        """How many things the asking makes behind what keeps the things of nodes with these marks."""
        root = mark_of(self.walk.root())
        cost = 0 if root in self.lasting else self.walk.units[root]
        for mark, unit in self.lasting.items():
            if mark not in kept:
                cost += unit
        return cost

    def kept_behind(self):
        """The marks of the nodes of which things are kept behind the asking."""
        found = {mark: True for mark in self.kept_before}
        for mark in self.lasting:
            found[mark] = True
        return found


class Chart:
    """Finds for each asking a way on which few things are made; the first stops are those with the fewest."""

    def __init__(self, finder, roots):
        self.finder = finder
        self.walks = {}
        self.waiting = {}
        self.settled = {}
        for asking in root_askings(finder, roots):
            self.note(asking, 0, {})
        while len(self.waiting) > 0:
            self.settle(self.cheapest())
        self.stops = list(self.settled.values())
        # By mark, the first stop that reaches a node, and the first one whose key gives it.
        self.first_reaching = {}
        self.first_giving = {}
        for stop in self.stops:
            self.first_giving.setdefault(mark_of(stop.walk.root()), stop)
            for node, _ in stop.walk.pairs:
                self.first_reaching.setdefault(mark_of(node), stop)

    def new_stop(self, asking):
        """The stop of an asking, without what is made on the way to it."""
        if asking.mark not in self.walks:
            walk = Walk(self.finder)
            walk.resolve(asking.looked_in, asking.key, asking.depth)
            lasting = {}
            for mark, node in walk.reached.items():
                if self.finder.depth_of(node) is not None:
                    lasting[mark] = walk.units[mark]
            self.walks[asking.mark] = (walk, lasting)
        walk, lasting = self.walks[asking.mark]
        return Stop(asking, walk, lasting)

    def note(self, asking, total, kept):
        """Note a way to an asking behind so many things, unless one with fewer is known."""
        stop = self.new_stop(asking)
        stop.cost = total + stop.cost_behind(kept)
        stop.kept_before = kept
        if asking.mark not in self.waiting or stop.cost < self.waiting[asking.mark].cost:
            self.waiting[asking.mark] = stop

    def cheapest(self):
        """The stop that waits with the fewest things."""
        found = None
        for stop in self.waiting.values():
            if found is None or stop.cost < found.cost:
                found = stop
        return found

    def settle(self, stop):
        """Take the way to a stop as the best one, and note where it leads."""
        del self.waiting[stop.asking.mark]
        self.settled[stop.asking.mark] = stop
        kept = stop.kept_behind()
        noted = {}
        for asking in askings_behind(self.finder, stop.asking, stop.walk.pairs):
            if asking.mark not in self.settled and asking.mark not in noted:
                noted[asking.mark] = True
                self.note(asking, stop.cost, kept)
