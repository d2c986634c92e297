"""The fewest wants that have to become lazy so that no ring is left."""

from itertools import combinations
from wirebox.bindings import Wrapper
from wirebox.containers import need_container
from wirebox.errors import BadChange, NoPart, TooMany
from wirebox.finding import FAULTS, Finder, is_node, maker_of, mark_of
from wirebox.rebuilding import container_with, part_with
from wirebox.rings import ring_without, threads_of_rings
from wirebox.roots import need_roots, nodes_in_question
from wirebox.words import is_integer

MOST_NODES = 500
MOST_CHANGES = 12


def forms_at(part):
    """The forms of the wants of a part's nodes, place by place, the inner one of a wrapper first."""
    forms = [form for form, _, _ in part.wants]
    return ["inner"] + forms if isinstance(part, Wrapper) else forms


def nodes_led_to(link):
    """The nodes to which a want comes that is not lazy and has no fault; none for others."""
    return () if link[0] in FAULTS else link[2]


def threads_from(finder, node, numbers):
    """The threads of a node; the numbers of nodes are told by marks."""
    maker = maker_of(node)
    forms = forms_at(finder.top.part(maker))
    found = []
    for place, link in enumerate(finder.links_of(node)):
        change = (maker, place) if forms[place] == "plain" else None
        for following in nodes_led_to(link):
            found.append((numbers[mark_of(following)], place, change))
    return found


def changes_in(threads):
    """The ascending different changes that break threads."""
    noted = {}
    for row in threads:
        for _, _, change in row:
            if change is not None:
                noted[change] = True
    return sorted(noted)


def are_broken(rings, changes):
    """Whether these changes break all rings, each told by the changes that break it."""
    for ring in rings:
        if not any([change in ring for change in changes]):
            return False
    return True


class Breaking:
    """Finds the fewest changes that break all rings of nodes, and rings that need as many."""

    def __init__(self, finder, roots):
        noted = nodes_in_question(finder, roots, MOST_NODES)
        self.nodes = list(noted.values())
        numbers = {mark: number for number, mark in enumerate(noted)}
        self.threads = threads_of_rings([threads_from(finder, node, numbers) for node in self.nodes])
        self.changes = changes_in(self.threads)
        if len(self.changes) > MOST_CHANGES:
            raise TooMany(MOST_CHANGES)

    def ring_told(self, ring):
        """A ring as pairs of a node and a place."""
        return tuple([(self.nodes[number], thread[1]) for number, thread in ring])

    def solve(self):
        """The fewest changes, None if some ring has no plain want, and rings that show that no fewer do."""
        fixed = ring_without(self.threads, self.changes)
        if fixed is not None:
            return (None, (self.ring_told(fixed),))
        rings = []
        breakers = []
        for many in range(len(self.changes) + 1):
            for changes in combinations(self.changes, many):
                # What leaves one of the rings that were found is not looked at, so they need what is told at last.
                if are_broken(breakers, changes):
                    ring = ring_without(self.threads, changes)
                    if ring is None:
                        return (changes, tuple(rings))
                    rings.append(self.ring_told(ring))
                    breakers.append([thread[2] for _, thread in ring])
        return (None, ())


def fewest_lazies(container, roots):
    """The least of the smallest tuples of changes that break all rings, or None if some ring has no plain want."""
    need_roots(container, roots)
    return Breaking(Finder(container), roots).solve()[0]


def rings_of(container, roots):
    """A tuple of rings that need as many changes as are the fewest, or the one ring that no changes break."""
    need_roots(container, roots)
    return Breaking(Finder(container), roots).solve()[1]


def is_ring_pair(container, value):
    """Whether any value is a pair of a node of a container and a number."""
    if not isinstance(value, tuple) or len(value) != 2:
        return False
    return is_node(container, value[0]) and is_integer(value[1])


def leads_to(finder, pair, node):
    """Whether the want of a pair of a node and a place gives another node."""
    links = finder.links_of(pair[0])
    return pair[1] >= 0 and pair[1] < len(links) and node in nodes_led_to(links[pair[1]])


def is_ring(container, value):
    """Whether any value is a ring of nodes of a container."""
    need_container(container)
    if not isinstance(value, tuple) or len(value) == 0:
        return False
    if not all([is_ring_pair(container, pair) for pair in value]):
        return False
    marks = {mark_of(node): True for node, _ in value}
    if len(marks) != len(value):
        return False
    finder = Finder(container)
    for at, (following, _) in enumerate(value):
        if not leads_to(finder, value[at - 1], following):
            return False
    return True


def part_or_none(container, name):
    """The part of the chain with a name, None for any value that is no such name."""
    try:
        return container.part(name)
    except NoPart:
        return None


def is_change(container, value):
    """Whether any value is a change of a container."""
    if not isinstance(value, tuple) or len(value) != 2:
        return False
    name, place = value
    part = part_or_none(container, name)
    if part is None or not is_integer(place):
        return False
    forms = forms_at(part)
    return place >= 0 and place < len(forms) and forms[place] == "plain"


def lazy_part(part, changes):
    """A part with those of its wants lazy of which changes tell."""
    first = 1 if isinstance(part, Wrapper) else 0
    wants = []
    for at, (form, pattern, tag) in enumerate(part.wants):
        wants.append(("lazy" if (part.name, first + at) in changes else form, pattern, tag))
    return part_with(part, wants=tuple(wants), failing=part.failing, bad_end=part.bad_end)


def made_lazy(container, changes):
    """A container, and its parents, with these changes."""
    need_container(container)
    if not isinstance(changes, tuple):
        raise BadChange(None)
    for index, change in enumerate(changes):
        if not is_change(container, change) or change in changes[:index]:
            raise BadChange(index)
    return container_with(container, lambda part: lazy_part(part, changes))
