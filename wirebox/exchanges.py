"""Exchanging the container of a box in use, and what goes with it."""

from wirebox.boxes import Box
from wirebox.containers import need_container
from wirebox.errors import BadBox, Unlike
from wirebox.finding import FAULTS, Finder, is_node, maker_of, mark_of
from wirebox.making import held_numbers
from wirebox.nodes import given_by, need_node


def need_same_levels(one, other):
    """Refuse two containers with other levels."""
    if one.levels != other.levels:
        raise Unlike("levels")


def is_otherwise(link, other):
    """Whether what a want comes to is otherwise, or one of both has a fault."""
    if link[0] in FAULTS or other[0] in FAULTS:
        return True
    return given_by(link) != given_by(other)


def first_otherwise(links, others):
    """The number of the first want that is otherwise, or None."""
    for at, (link, other) in enumerate(zip(links, others)):
        if is_otherwise(link, other):
            return at
    if len(links) != len(others):
        return min(len(links), len(others))
    return None


def difference_of(before, after, node):
    """Why a node comes otherwise behind an exchange of what these two find: a tuple, or None if it does not."""
    if not is_node(after.top, node):
        return ("node",)
    maker = maker_of(node)
    if before.top.part(maker).has_end != after.top.part(maker).has_end:
        return ("end",)
    if before.depth_of(node) != after.depth_of(node):
        return ("level",)
    at = first_otherwise(before.links_of(node), after.links_of(node))
    return None if at is None else ("wants", at)


def comes_otherwise(one, other, node):
    """Whether a node of the first container comes otherwise in the second one."""
    need_container(one)
    need_container(other)
    need_node(one, node)
    need_same_levels(one, other)
    return difference_of(Finder(one), Finder(other), node) is not None


def living_things(box):
    """The ascending numbers of the living things of a box."""
    numbers = []
    for scope in box.scopes:
        numbers.extend(box.things_in(scope))
    return sorted(numbers)


class Exchange:
    """What an exchange of the container of a box will do to its living things."""

    def __init__(self, box, container):
        self.box = box
        self.before = Finder(box.container)
        self.after = Finder(container)
        self.reasons = {}
        self.numbers = living_things(box)

    def reason(self, number):
        """Why the node of a thing comes otherwise, or None."""
        node = self.box.thing(number)[0]
        mark = mark_of(node)
        if mark not in self.reasons:
            self.reasons[mark] = difference_of(self.before, self.after, node)
        return self.reasons[mark]

    def held_by(self, number):
        """The ascending numbers of the things that a thing holds."""
        return sorted(held_numbers(self.box.thing(number)[2]))

    def is_bound(self, number):
        """Whether a thing has no level, so that it goes with the one that holds it."""
        return self.before.depth_of(self.box.thing(number)[0]) is None

    def rising(self):
        """Why things go that come otherwise, or hold such a one, directly or through others: by their numbers."""
        found = {}
        for number in self.numbers:
            reason = self.reason(number)
            if reason is None:
                # What a thing holds was made before it.
                held = [other for other in self.held_by(number) if other in found]
                reason = ("holds", held[0]) if len(held) > 0 else None
            if reason is not None:
                found[number] = reason
        return found

    def stale(self):
        """Why things go, for all that go, by their numbers."""
        found = self.rising()
        # Nothing else holds what is added here, so that nothing more has to go for this.
        for number in reversed(self.numbers):
            if number in found:
                for held in self.held_by(number):
                    if held not in found and self.is_bound(held):
                        found[held] = ("held", number)
        return found


def planned_exchange(box, container):
    """What an exchange will do, if the values are as they have to be."""
    if not isinstance(box, Box):
        raise BadBox(box)
    need_container(container)
    need_same_levels(box.container, container)
    return Exchange(box, container)


def stale_things(box, container):
    """The ascending tuple of the numbers of the things that an exchange would put away."""
    return tuple(sorted(planned_exchange(box, container).stale()))


def exchange(box, container):
    """Exchange the container of a box, and tell the numbers of the things that were put away, ascending."""
    numbers = stale_things(box, container)
    box.go_on_with(container, numbers)
    return numbers


def stale_paper(box, container):
    """Pairs of the number of each thing that an exchange would put away, ascending, and why."""
    found = planned_exchange(box, container).stale()
    return tuple([(number, found[number]) for number in sorted(found)])
