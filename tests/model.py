"""What DOC.md says of choosing, worked out in other ways than in the program."""

import functools
import itertools

from tests.oracle import exchanged, matches, shape_variables
from wirebox.bindings import Binding, Wrapper


@functools.lru_cache(None)
def does_match(pattern, term):
    return matches(pattern, term)


@functools.lru_cache(None)
def is_special(one, other):
    """Whether one pattern is at least as special as the other one, by words of its own for its variables."""
    own = {name: (f"own_{name.lower()}", ()) for name in shape_variables(one)}
    return does_match(other, exchanged(one, own))


def more_special(one, other):
    return is_special(one.pattern, other.pattern) and not is_special(other.pattern, one.pattern)


def alike(one, other):
    return one.tag == other.tag and is_special(one.pattern, other.pattern) and is_special(other.pattern, one.pattern)


def for_key(part, key):
    return part.tag == key[1] and does_match(part.pattern, key[0])


def bindings_of(layer, key):
    return [part for part in layer if isinstance(part, Binding) and for_key(part, key)]


def chosen_names(container, key):
    """The names of the chosen binding, or of those that make the key ambiguous, or nothing."""
    while container is not None:
        for layer in container.layers[::-1]:
            found = bindings_of(layer, key)
            if found:
                best = [one for one in found if all(one is other or more_special(one, other) for other in found)]
                if not best:
                    best = [one for one in found if not any(more_special(other, one) for other in found)]
                return tuple(sorted(one.name for one in best))
        container = container.parent
    return ()


def chain_layers(container):
    """All layers of a chain, each with the number of its container."""
    found = []
    while container is not None:
        found = [(container, layer) for layer in container.layers] + found
        container = container.parent
    return found


def gathered_names(container, key):
    layers = chain_layers(container)
    found = []
    for at, (_, layer) in enumerate(layers):
        for one in bindings_of(layer, key):
            behind = itertools.chain.from_iterable(bindings_of(other, key) for _, other in layers[at + 1:])
            if not any(alike(one, other) for other in behind):
                found.append(one.name)
    return tuple(found)


def wrapping_names(container, key):
    return tuple(
        part.name for _, layer in chain_layers(container) for part in layer if isinstance(part, Wrapper) and for_key(part, key)
    )


def papers(container, key):
    """The rows of a paper, each as a set of all rows that may stand there."""
    rows = []
    while container is not None:
        is_last = False
        for at, layer in enumerate(container.layers):
            for one in layer:
                if not isinstance(one, Binding):
                    continue
                mates = bindings_of(layer, key)
                later = [other.name for layer_behind in container.layers[at + 1:] for other in bindings_of(layer_behind, key)]
                more = [other.name for other in mates if more_special(other, one)]
                if one.tag != key[1]:
                    row = {(one.name, "tag", None)}
                elif not does_match(one.pattern, key[0]):
                    row = {(one.name, "unlike", None)}
                else:
                    is_last = True
                    if later:
                        row = {(one.name, "covered", name) for name in later}
                    elif more:
                        row = {(one.name, "less", name) for name in more}
                    else:
                        row = {(one.name, "equal" if len(chosen_names(container, key)) > 1 else "chosen", None)}
                rows.append(row)
        if is_last:
            return rows
        container = container.parent
    return rows
