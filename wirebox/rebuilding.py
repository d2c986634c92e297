"""Containers that are like given ones but for some of their parts."""

from wirebox.bindings import Binding, Wrapper
from wirebox.containers import Container


def part_with(part, *, wants, failing, bad_end):
    """A part that is like the given one but for these."""
    name, pattern, tag, has_end = part.name, part.pattern, part.tag, part.has_end
    if isinstance(part, Wrapper):
        return Wrapper(name, pattern, tag=tag, wants=wants, has_end=has_end, failing=failing, bad_end=bad_end)
    level = part.level
    return Binding(name, pattern, tag=tag, level=level, wants=wants, has_end=has_end, failing=failing, bad_end=bad_end)


def container_with(container, changed):
    """A container, and its parents, with what a function tells for each of the parts in its place."""
    parent = None
    if container.parent is not None:
        parent = container_with(container.parent, changed)
    layers = tuple([tuple([changed(part) for part in layer]) for layer in container.layers])
    return Container(container.levels, layers, parent=parent)
