"""The check ahead: whether any asking by the roots could be refused, and a shortest row that shows it."""

from wirebox.askings import askings_behind, root_askings
from wirebox.containers import need_container
from wirebox.errors import TooMany
from wirebox.faults import fault_of
from wirebox.finding import Finder
from wirebox.roots import has_root_count, is_root, need_roots
from wirebox.rows import bare
from wirebox.running import Run
from wirebox.walking import Walk

MOST_ASKINGS = 300


class Lookout:
    """Looks at askings by ascending cost, until one is refused."""

    def __init__(self, finder):
        self.finder = finder
        self.looked = {}
        self.noted = {}

    def look(self, asking):
        """What an asking raises, or None, and the askings to which it leads."""
        if len(self.looked) == MOST_ASKINGS:
            raise TooMany(MOST_ASKINGS)
        if asking.key is None:
            return (("TooDeep", (asking.step[1][1],)), [])
        self.looked[asking.mark] = True
        walk = Walk(self.finder)
        fault = fault_of(lambda: walk.resolve_counted(asking.looked_in, asking.key, asking.depth))
        if fault is not None:
            return (fault, [])
        return (None, self.not_noted(askings_behind(self.finder, asking, walk.pairs)))

    def not_noted(self, askings):
        """Those of these askings that do not wait already, or were looked at; and note them."""
        found = []
        for asking in askings:
            if asking.mark is None or asking.mark not in self.noted:
                found.append(asking)
            self.noted[asking.mark] = True
        return found

    def first_refused(self, roots):
        """What is raised first, and the asking that raises it, or None."""
        waiting = []
        depth = 0
        while depth < len(self.finder.top.levels) or len(waiting) > 0:
            # Roots cost one more than the depth at which they are asked.
            following = []
            for asking in [root for root in roots if root.depth == depth] + waiting:
                if asking.mark not in self.looked:
                    fault, behind = self.look(asking)
                    if fault is not None:
                        return (fault, asking)
                    following.extend(behind)
            waiting = following
            depth += 1
        return None


def row_to(finder, asking):
    """The row of commands that ends with an asking, which alone may be refused."""
    run = Run(finder)
    steps = asking.steps_so_far()
    for step in steps[:-1]:
        run.take(step)
    run.tell(steps[-1])
    return tuple(run.commands)


def are_roots(container, value):
    """Whether any value are roots of a container."""
    need_container(container)
    return has_root_count(value) and all([is_root(container, root) for root in value])


def check(container, roots):
    """None, or what a shortest row of the roots that goes wrong raises, as a word and its field, and the row."""
    need_roots(container, roots)
    finder = Finder(bare(container))
    found = Lookout(finder).first_refused(root_askings(finder, roots))
    if found is None:
        return None
    (word, told), asking = found
    return (word, told, row_to(finder, asking))
