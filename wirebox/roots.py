"""Roots: the keys that may be asked, with their levels, and the nodes to which they come."""

from wirebox.containers import need_container
from wirebox.errors import BadRoots, TooMany
from wirebox.finding import FAULTS, mark_of
from wirebox.terms import is_key
from wirebox.words import is_word

MOST_ROOTS = 20


def is_root(container, value):
    """Whether any value is a pair of a key and a level of the container."""
    if not isinstance(value, tuple) or len(value) != 2:
        return False
    key, level = value
    return is_key(key) and is_word(level) and level in container.levels


def has_root_count(value):
    """Whether any value is a tuple of as many elements as roots may have."""
    return isinstance(value, tuple) and len(value) > 0 and len(value) <= MOST_ROOTS


def need_roots(container, value):
    """Refuse what are no roots of a container, ahead of this what is no container."""
    need_container(container)
    if not has_root_count(value):
        raise BadRoots(None)
    for index, root in enumerate(value):
        if not is_root(container, root):
            raise BadRoots(index)


def nodes_in_question(finder, roots, bound):
    """The nodes of roots, as told, and those to which wants lead, refused if there are more than a bound, by marks."""
    found = {}
    waiting = []
    for key, _ in roots:
        word, _, told = finder.link("plain", finder.top, key)
        waiting.extend(() if word in FAULTS else told)
    while len(waiting) > 0:
        # Those to which they lead come behind all that wait already.
        fresh = []
        for node in waiting:
            mark = mark_of(node)
            if mark not in found:
                if len(found) == bound:
                    raise TooMany(bound)
                found[mark] = node
                fresh.append(node)
        waiting = []
        for node in fresh:
            for told in finder.led_by(node):
                waiting.extend(told)
    return found
