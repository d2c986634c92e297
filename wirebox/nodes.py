"""Nodes: what keys give in a container, what nodes want, and what resolving reaches."""

from wirebox.containers import need_container
from wirebox.errors import Ambiguous, BadLevel, BadNode, Missing, TooDeep, TooMany
from wirebox.finding import Finder, is_node
from wirebox.terms import need_key
from wirebox.walking import GREATEST_COUNT, Walk
from wirebox.words import is_word


def need_node(container, value):
    """Refuse what is no node of a container or its parents."""
    if not is_node(container, value):
        raise BadNode(value)


def node_of(container, key):
    """The node that a key gives in a container."""
    need_container(container)
    need_key(key)
    word, _, told = Finder(container).link("plain", container, key)
    if word == "missing":
        raise Missing((key,))
    if word == "unclear":
        raise Ambiguous(told)
    return told[0]


def level_of_node(container, node):
    """The level of a node, or None."""
    need_container(container)
    need_node(container, node)
    return container.part(node[0]).level


def given_by(link):
    """What a want without a fault gives: a node, None, a tuple of nodes, or "lazy" and a key."""
    word, key, told = link
    if word == "lazy":
        return ("lazy", key)
    if word == "all":
        return told
    return told[0] if len(told) > 0 else None


def wanted_by(container, node):
    """What each want of a node gives, its inner node first."""
    need_container(container)
    need_node(container, node)
    given = []
    for link in Finder(container).links_of(node):
        word, key, told = link
        if word == "deep":
            raise TooDeep((node[1],))
        if word == "missing":
            raise Missing((node[1], key))
        if word == "unclear":
            raise Ambiguous(told)
        given.append(given_by(link))
    return tuple(given)


def resolved(container, key, level):
    """The tuple of all different nodes that resolving a key at a level reaches."""
    need_container(container)
    need_key(key)
    if not is_word(level) or level not in container.levels:
        raise BadLevel(level)
    walk = Walk(Finder(container))
    walk.resolve(container, key, container.levels.index(level))
    return tuple(walk.reached.values())


def count_of(container, key):
    """The number of things that asking for a key makes in a new box, in a scope of the last level."""
    need_container(container)
    need_key(key)
    walk = Walk(Finder(container))
    walk.resolve(container, key, len(container.levels) - 1)
    total = walk.total()
    if total > GREATEST_COUNT:
        raise TooMany(GREATEST_COUNT)
    return total
