"""Resolving: going through all nodes that a key comes to, depth first."""

from wirebox.errors import Ambiguous, Captive, Missing, Ring, TooDeep, TooMany
from wirebox.finding import mark_of, steps_of

MOST_NODES = 500
MOST_COUNTED = 500
GREATEST_COUNT = 10 ** 12


class Frame:
    """A node on the way, and how far its wants were gone through."""

    def __init__(self, node, mark, is_inner, depth, steps):
        self.node = node
        self.mark = mark
        self.is_inner = is_inner
        self.depth = depth
        self.steps = steps
        self.done = 0


class Walk:
    """Goes through the nodes that a key comes to; levels are told by their numbers, as depths.

    The frames stand in a list, as a way may have more nodes than Python has room for calls in calls.
    """

    def __init__(self, finder):
        self.finder = finder
        self.frames = []
        self.way = {}
        self.reached = {}
        self.passed = {}
        self.units = {}
        # Each node with the depth at which its things live, in the order in which they are reached.
        self.pairs = []

    def resolve(self, home, key, depth):
        """Go through all that a key comes to that is asked in a container of the chain, at this depth."""
        for step in steps_of([self.finder.link("plain", home, key)]):
            self.take(step, depth)
        while len(self.frames) > 0:
            frame = self.frames[-1]
            if frame.done < len(frame.steps):
                frame.done += 1
                self.take(frame.steps[frame.done - 1], frame.depth)
            else:
                self.leave(frame)

    def resolve_counted(self, home, key, depth):
        """Resolve a key so, and tell its count, which is refused if it is too large."""
        self.resolve(home, key, depth)
        total = self.total()
        if total > MOST_COUNTED:
            raise TooMany(MOST_COUNTED)
        return total

    def path_from(self, place):
        """The keys that were asked from the frame at this place on."""
        keys = [frame.node[1] for frame in self.frames[place + 1:] if not frame.is_inner]
        return (self.frames[place].node[1],) + tuple(keys)

    def path_with(self, place, key, is_inner):
        """The same, with what is asked now behind it."""
        if len(self.frames) == 0:
            return (key,)
        return self.path_from(place) + (() if is_inner else (key,))

    def take(self, step, depth):
        """Raise the fault of a step, or go to its node."""
        word, key, told, mark = step
        if word == "deep":
            raise TooDeep(self.path_from(0))
        if word == "missing":
            raise Missing(self.path_with(0, key, False))
        if word == "unclear":
            raise Ambiguous(told)
        self.reach(told, mark, word == "inner", depth)

    def reach(self, node, mark, is_inner, depth):
        """Come to a node with this mark at this depth."""
        own = self.finder.depth_of(node)
        if own is not None and own > depth:
            raise Captive(self.path_with(0, node[1], is_inner))
        if mark in self.way:
            raise Ring(self.path_with(self.way[mark], node[1], is_inner))
        if mark not in self.reached:
            if len(self.reached) == MOST_NODES:
                raise TooMany(MOST_NODES)
            self.reached[mark] = node
        if own is not None:
            depth = own
        if (mark, depth) not in self.passed:
            self.way[mark] = len(self.frames)
            self.pairs.append((node, depth))
            self.frames.append(Frame(node, mark, is_inner, depth, self.finder.steps_from(node, mark)))

    def leave(self, frame):
        """Go back from the last node on the way, whose wants were all gone through."""
        self.frames.pop()
        del self.way[frame.mark]
        self.passed[(frame.mark, frame.depth)] = True
        unit = 1
        for _, _, node, mark in frame.steps:
            if self.finder.depth_of(node) is None:
                unit += self.units[mark]
        # Far above what is asked for, so numbers stay small.
        self.units[frame.mark] = min(unit, GREATEST_COUNT + 1)

    def root(self):
        """The node of the key that was resolved."""
        return list(self.reached.values())[0]

    def total(self):
        """The count of the key that was resolved, or any larger number than 10 ** 12 if it is so large.

        A unit is the number of things made for one thing of a node: itself and those without a level.
        """
        root = self.root()
        total = 0
        for mark, node in self.reached.items():
            if node == root or self.finder.depth_of(node) is not None:
                total += self.units[mark]
        return total
