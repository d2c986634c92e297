"""Nodes, and what their wants come to.

A link tells what a want comes to, as a triple (word, key, told):

- "inner", "one" and "all" with the tuple of the nodes; "none" and "lazy" with (), the key None if it is too deep;
- "deep", "missing" and "unclear" for a want with a fault, the last one with the names of the bindings.
"""

from wirebox.bindings import Wrapper, wants_for
from wirebox.choosing import contenders, gathered, names_of, wrappers_for
from wirebox.terms import is_key, tagged_text
from wirebox.words import is_word

FAULTS = ("deep", "missing", "unclear")


def mark_of(node):
    """What a node has in common with itself alone, as a key of dicts."""
    name, key, wrappers = node
    return (name, tagged_text(key[0], key[1]), wrappers)


def maker_of(node):
    """The name of the last wrapper of a node, or without one that of its binding."""
    name, _, wrappers = node
    return wrappers[-1] if len(wrappers) > 0 else name


def looks_like_node(value):
    """Whether a value has the form of a node, of whatever container."""
    if not isinstance(value, tuple) or len(value) != 3:
        return False
    name, key, wrappers = value
    if not is_word(name) or not is_key(key) or not isinstance(wrappers, tuple):
        return False
    return all([is_word(wrapper) for wrapper in wrappers])


def nodes_for(container, key, bindings):
    """The nodes of bindings that a container chooses or gathers for a key."""
    wrappers = names_of_all(wrappers_for(container, key))
    return tuple([(binding.name, key, wrappers) for binding in bindings])


def names_of_all(parts):
    """The tuple of the names of parts, in their order."""
    return tuple([part.name for part in parts])


def is_node(container, value):
    """Whether any value is a node of a container or its parents."""
    if not looks_like_node(value):
        return False
    name, key, wrappers = value
    for home in container.chain:
        # What is chosen is gathered, too: nothing behind it in the chain is for the key.
        if name in names_of_all(gathered(home, key)):
            if names_of_all(wrappers_for(home, key))[:len(wrappers)] == wrappers:
                return True
    return False


def steps_of(links):
    """What resolving goes through: rows of a word, a key, a node or what a fault tells, and the mark of a node."""
    steps = []
    for word, key, told in links:
        if word in FAULTS:
            steps.append((word, key, told, None))
        else:
            steps.extend([(word, key, node, mark_of(node)) for node in told])
    return steps


class Finder:
    """Finds the nodes of a container and its parents, and keeps what it found."""

    def __init__(self, top):
        self.top = top
        self.found = {}
        self.links = {}
        self.steps = {}
        self.depths = {}

    def link(self, form, home, key):
        """What a want comes to whose key, None if it is too deep, is asked in a container of the chain."""
        if form == "lazy":
            return ("lazy", key, ())
        if key is None:
            return ("deep", None, ())
        # Containers of one chain differ in the length of their own one.
        mark = (form, len(home.chain), tagged_text(key[0], key[1]))
        if mark not in self.found:
            self.found[mark] = self.new_link(form, home, key)
        return self.found[mark]

    def new_link(self, form, home, key):
        """What such a want comes to that is not lazy, and whose key is not too deep."""
        if form == "all":
            return ("all", key, nodes_for(home, key, gathered(home, key)))
        bindings = contenders(home, key)
        if len(bindings) > 1:
            return ("unclear", key, names_of(bindings))
        if len(bindings) == 1:
            return ("one", key, nodes_for(home, key, bindings))
        return ("none" if form == "maybe" else "missing", key, ())

    def links_of(self, node):
        """What the wants of a node come to, its inner node first."""
        mark = mark_of(node)
        if mark not in self.links:
            self.links[mark] = self.new_links(node)
        return self.links[mark]

    def new_links(self, node):
        """What the wants of a node come to."""
        name, key, wrappers = node
        maker = maker_of(node)
        part = self.top.part(maker)
        home = self.top.home(maker)
        links = []
        if isinstance(part, Wrapper):
            links.append(("inner", key, ((name, key, wrappers[:-1]),)))
        for form, asked in wants_for(part, key):
            links.append(self.link(form, home, asked))
        return tuple(links)

    def steps_from(self, node, mark):
        """What resolving goes through behind a node with this mark."""
        if mark not in self.steps:
            self.steps[mark] = steps_of(self.links_of(node))
        return self.steps[mark]

    def depth_of(self, node):
        """The number, from 0, of the level of a node, or None."""
        name = node[0]
        if name not in self.depths:
            level = self.top.part(name).level
            self.depths[name] = None if level is None else self.top.levels.index(level)
        return self.depths[name]

    def led_by(self, node):
        """For each want of a node, in order, the tuple of the nodes to which it leads, lazy ones too."""
        home = self.top.home(maker_of(node))
        found = []
        for word, key, told in self.links_of(node):
            if word == "lazy" and key is not None:
                word, key, told = self.link("plain", home, key)
            found.append(() if word in FAULTS else told)
        return found
