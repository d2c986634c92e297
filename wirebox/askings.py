"""Askings: what can be asked of a container by roots, and by the handles of what that makes."""

from wirebox.finding import maker_of
from wirebox.terms import tagged_text


def mark_of_asking(home, key, depth):
    """What an asking has in common with the same one alone, as a key of dicts; None if its key is too deep."""
    # Containers of one chain differ in the length of their own one.
    return None if key is None else (len(home.chain), tagged_text(key[0], key[1]), depth)


class Asking:
    """A key with the container in which it is looked up and a depth, the step that asks it, and what led there."""

    def __init__(self, home, key, step, before):
        self.looked_in = home
        self.key = key
        self.depth = step[-1]
        self.mark = mark_of_asking(home, key, self.depth)
        self.step = step
        self.before = before

    def steps_so_far(self):
        """The steps that lead to it, and its own one."""
        found = []
        asking = self
        while asking is not None:
            found.append(asking.step)
            asking = asking.before
        return list(reversed(found))


def root_askings(finder, roots):
    """The askings of roots, as told."""
    found = []
    for key, level in roots:
        found.append(Asking(finder.top, key, ("ask", key, finder.top.levels.index(level)), None))
    return found


def askings_behind(finder, asking, pairs):
    """The askings to which handles lead that come by these pairs of a node and the depth at which its things live."""
    found = []
    for node, depth in pairs:
        for place, (word, key, _) in enumerate(finder.links_of(node)):
            if word == "lazy":
                home = finder.top.home(maker_of(node))
                found.append(Asking(home, key, ("use", node, place, depth), asking))
    return found
