"""Containers: levels, layers of parts, and perhaps a parent."""

from wirebox.bindings import Binding, is_part
from wirebox.errors import (
    BadContainer, BadLayers, BadLevels, BadParent, NoPart, SameName, TooLarge, Twice, UnknownLevel,
)
from wirebox.patterns import VARIABLES, named_by_places
from wirebox.terms import tagged_text
from wirebox.words import is_word

MOST_LEVELS = 5
MOST_LAYERS = 6
MOST_CHAIN = 3
MOST_PARTS = 60


def check_levels(levels):
    """Refuse what is no tuple of 1 to 5 different words."""
    if not isinstance(levels, tuple) or len(levels) == 0 or len(levels) > MOST_LEVELS:
        raise BadLevels(None)
    for index, level in enumerate(levels):
        if not is_word(level) or level in levels[:index]:
            raise BadLevels(index)


def check_parent(parent, levels):
    """Refuse what is neither None nor a container below which one with these levels may stand."""
    if parent is None:
        return
    if not isinstance(parent, Container) or parent.levels != levels or len(parent.chain) >= MOST_CHAIN:
        raise BadParent(parent)


def check_layers(layers):
    """Refuse what is no tuple of at most 6 tuples of parts."""
    if not isinstance(layers, tuple) or len(layers) > MOST_LAYERS:
        raise BadLayers(())
    for at, layer in enumerate(layers):
        if not isinstance(layer, tuple):
            raise BadLayers((at,))
        for place, part in enumerate(layer):
            if not is_part(part):
                raise BadLayers((at, place))


def placed_parts(layers):
    """Pairs of a path, of layer and place, and the part that stands there."""
    found = []
    for at, layer in enumerate(layers):
        for place, part in enumerate(layer):
            found.append(((at, place), part))
    return found


def check_names(layers, taken):
    """Refuse a part whose name is one of these or that of a part before it."""
    noted = {name: True for name in taken}
    for path, part in placed_parts(layers):
        if part.name in noted:
            raise SameName(path)
        noted[part.name] = True


def check_known_levels(layers, levels):
    """Refuse a binding with a level that is none of these."""
    for path, part in placed_parts(layers):
        if isinstance(part, Binding) and part.level is not None and part.level not in levels:
            raise UnknownLevel(path)


def aim_text(binding):
    """A text that bindings have in common just if their tags are the same and their patterns alike."""
    return tagged_text(named_by_places(binding.pattern, VARIABLES), binding.tag)


def aims_of(layers):
    """By name, the texts that bindings have in common with alike ones; refused if two of one layer have it."""
    found = {}
    noted = {}
    for path, part in placed_parts(layers):
        if isinstance(part, Binding):
            found[part.name] = aim_text(part)
            aim = (path[0], found[part.name])
            if aim in noted:
                raise Twice(path)
            noted[aim] = True
    return found


class Container:
    """Tells by its parts, and those of its parents, what things are made of."""

    def __init__(self, levels, layers, *, parent=None):
        check_levels(levels)
        check_parent(parent, levels)
        check_layers(layers)
        self._levels = levels
        self._layers = layers
        self._parent = parent
        # By name, each part of the chain with the container to which it belongs.
        self._owned = {}
        for container in self.chain[:-1]:
            self._own(container)
        check_names(layers, list(self._owned))
        check_known_levels(layers, levels)
        # Working these texts out takes long beside looking for parts, so they are kept.
        self._aims = aims_of(layers)
        if parent is not None:
            for name, aim in parent.aims().items():
                self._aims[name] = aim
        self._own(self)
        if len(self._owned) > MOST_PARTS:
            raise TooLarge(len(self._owned))

    def _own(self, container):
        """Note the parts of a container of the chain."""
        for _, part in placed_parts(container.layers):
            self._owned[part.name] = (part, container)

    @property
    def levels(self):
        """The tuple of the levels, the outermost one first."""
        return self._levels

    @property
    def layers(self):
        """The tuple of the layers, each a tuple of parts."""
        return self._layers

    @property
    def parent(self):
        """The container in front of it in the chain, or None."""
        return self._parent

    @property
    def chain(self):
        """The tuple of its parents, the farthest one first, and itself at last."""
        if self._parent is None:
            return (self,)
        return self._parent.chain + (self,)

    def aims(self):
        """By name, for all bindings of the chain, the texts that they have in common with alike ones with their tag."""
        return dict(self._aims)

    def aim(self, name):
        """The text that the binding with this name has in common with alike ones with its tag."""
        return self._aims[name]

    def part(self, name):
        """The part of the chain with this name."""
        if not is_word(name) or name not in self._owned:
            raise NoPart(name)
        return self._owned[name][0]

    def home(self, name):
        """The container of the chain to which the part with this name belongs."""
        if not is_word(name) or name not in self._owned:
            raise NoPart(name)
        return self._owned[name][1]

    def __eq__(self, other):
        return (
            isinstance(other, Container)
            and self.levels == other.levels
            and self.layers == other.layers
            and self.parent == other.parent
        )


def need_container(value):
    """Refuse what is no container."""
    if not isinstance(value, Container):
        raise BadContainer(value)
