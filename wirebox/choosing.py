"""Which bindings and wrappers a container has for a key."""

from wirebox.bindings import Binding, Wrapper, suits
from wirebox.containers import need_container
from wirebox.errors import Ambiguous
from wirebox.patterns import fits
from wirebox.terms import need_key


def bindings_for(layer, key):
    """The bindings of a layer that are for a key, as told."""
    return [part for part in layer if isinstance(part, Binding) and suits(part, key)]


def is_less(one, other):
    """Whether the other binding is more special than this one."""
    return fits(one.pattern, other.pattern, {}) and not fits(other.pattern, one.pattern, {})


def foremost(bindings):
    """Those of these bindings than which none of them is more special."""
    return [one for one in bindings if not any([is_less(one, other) for other in bindings])]


def contenders(container, key):
    """The bindings from which to choose for a key: none, the chosen one, or those that make it ambiguous."""
    for home in reversed(container.chain):
        for layer in reversed(home.layers):
            suited = bindings_for(layer, key)
            if len(suited) > 0:
                return foremost(suited)
    return []


def names_of(bindings):
    """The ascending tuple of the names of bindings."""
    return tuple(sorted([binding.name for binding in bindings]))


def gathered(container, key):
    """The bindings of the chain that are for a key and are not replaced."""
    latest = {}
    for home in container.chain:
        for layer in home.layers:
            for binding in bindings_for(layer, key):
                aim = container.aim(binding.name)
                # What is put in once more stands at the end.
                latest.pop(aim, None)
                latest[aim] = binding
    return tuple(latest.values())


def wrappers_for(container, key):
    """The wrappers of the chain that are for a key, the innermost one first."""
    suited = []
    for home in container.chain:
        for layer in home.layers:
            suited.extend([part for part in layer if isinstance(part, Wrapper) and suits(part, key)])
    return tuple(suited)


def choose(container, key):
    """The binding that is chosen for a key that is asked in a container, or None."""
    need_container(container)
    need_key(key)
    found = contenders(container, key)
    if len(found) > 1:
        raise Ambiguous(names_of(found))
    return found[0] if len(found) == 1 else None


def gather(container, key):
    """The tuple of the bindings that are gathered for a key."""
    need_container(container)
    need_key(key)
    return gathered(container, key)


def wrapping(container, key):
    """The tuple of the wrappers that are for a key, the innermost one first."""
    need_container(container)
    need_key(key)
    return wrappers_for(container, key)
