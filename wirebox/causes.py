"""Variants of containers, mixtures of two, and the fewest parts for which a thing goes with an exchange."""

from itertools import combinations
from wirebox.bindings import Wrapper, suits, wants_for
from wirebox.boxes import Box
from wirebox.containers import need_container
from wirebox.errors import BadBox, BadNames, BadThing, TooMany, Twice, Unlike
from wirebox.exchanges import difference_of, living_things, need_same_levels
from wirebox.finding import Finder, maker_of, mark_of
from wirebox.making import held_numbers
from wirebox.rebuilding import container_with
from wirebox.words import is_integer, is_word

MOST_NAMES = 10


def names_by_layers(container):
    """The names of the parts of a chain, layer by layer, container by container."""
    return [[[part.name for part in layer] for layer in home.layers] for home in container.chain]


def differing(one, other):
    """The ascending tuple of the names that differ in two variants."""
    need_container(one)
    need_container(other)
    need_same_levels(one, other)
    names = names_by_layers(one)
    if names != names_by_layers(other):
        raise Unlike("names")
    found = []
    for layers in names:
        for layer in layers:
            found.extend([name for name in layer if one.part(name) != other.part(name)])
    if len(found) > MOST_NAMES:
        raise TooMany(MOST_NAMES)
    return tuple(sorted(found))


def are_names_of(value, names):
    """Whether any value is a tuple of different ones of these names."""
    if not isinstance(value, tuple):
        return False
    for at, name in enumerate(value):
        if not is_word(name) or name not in names or name in value[:at]:
            return False
    return True


def mixed(one, other, names):
    """The first container, but for these names, which are as in its variant."""
    return container_with(one, lambda part: other.part(part.name) if part.name in names else part)


def mixture(one, other, names):
    """The first container, but for some of the names that differ, which are as in the other one."""
    if not are_names_of(names, differing(one, other)):
        raise BadNames(names)
    return mixed(one, other, names)


def things_in_question(box, number):
    """The things of which one has to come otherwise if a living thing is to be stale."""
    finder = Finder(box.container)
    holders = {}
    for holder in living_things(box):
        for held in held_numbers(box.thing(holder)[2]):
            holders[held] = holder
    # What has no level goes with its holder, and has one at most.
    while number in holders and finder.depth_of(box.thing(number)[0]) is None:
        number = holders[number]
    found = {number: True}
    waiting = [number]
    while len(waiting) > 0:
        for held in held_numbers(box.thing(waiting.pop())[2]):
            if held not in found:
                found[held] = True
                waiting.append(held)
    return sorted(found)


def aim_of_part(part):
    """What decides which bindings are chosen or gathered, and which wrappers are put around things."""
    return (isinstance(part, Wrapper), part.pattern, part.tag)


class Causes:
    """Finds for which names, as they are in a variant, one of some nodes comes otherwise."""

    def __init__(self, one, other, names, nodes):
        self.one = one
        self.other = other
        self.before = Finder(one)
        self.nodes = nodes
        self.names_by_node = [self.names_for(node, names) for node in nodes]
        # By the number of a node and the names for it that are mixed in, whether it comes otherwise.
        self.known = {}

    def keys_for(self, node):
        """The keys on which a node hangs: its own one, and those that its last part wants in one of both."""
        name, key, _ = node
        keys = [key]
        for container in (self.one, self.other):
            part = container.part(maker_of(node))
            if suits(part, key):
                keys.extend([asked for form, asked in wants_for(part, key) if asked is not None and form != "lazy"])
        return keys

    def names_for(self, node, names):
        """Those of these names on which it can hang whether a node comes otherwise."""
        keys = self.keys_for(node)
        found = []
        for name in names:
            parts = (self.one.part(name), self.other.part(name))
            # All else of a part matters to its own nodes alone.
            is_moved = aim_of_part(parts[0]) != aim_of_part(parts[1])
            if name in (node[0], maker_of(node)):
                found.append(name)
            elif is_moved and any([suits(part, key) for part in parts for key in keys]):
                found.append(name)
        return found

    def marks_for(self, names):
        """For each node, its number and those of some names on which it hangs, as keys of the known answers."""
        found = []
        for number, own in enumerate(self.names_by_node):
            found.append((number, tuple([name for name in own if name in names])))
        return found

    def is_cause(self, names):
        """Whether one of the nodes comes otherwise if just these names are mixed in."""
        marks = self.marks_for(names)
        if all([mark in self.known and not self.known[mark] for mark in marks]):
            return False
        try:
            container = mixed(self.one, self.other, names)
        except Twice:
            return False
        after = Finder(container)
        for mark in marks:
            if mark not in self.known:
                self.known[mark] = difference_of(self.before, after, self.nodes[mark[0]]) is not None
            if self.known[mark]:
                return True
        return False


def least_cause(box, other, number):
    """The least tuple of the fewest names that make a living thing stale if they are as in a variant, or None."""
    if not isinstance(box, Box):
        raise BadBox(box)
    names = differing(box.container, other)
    if not is_integer(number) or not is_living(box, number):
        raise BadThing(number)
    nodes = {}
    for thing in things_in_question(box, number):
        node = box.thing(thing)[0]
        nodes[mark_of(node)] = node
    causes = Causes(box.container, other, names, list(nodes.values()))
    listed = list(names)
    for many in range(len(listed) + 1):
        for chosen in combinations(listed, many):
            if causes.is_cause(chosen):
                return chosen
    return None


def is_living(box, number):
    """Whether an integer is the number of a living thing of a box."""
    try:
        return box.lives(number)
    except BadThing:
        return False
