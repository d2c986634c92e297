"""All errors of the package, each with what it was created with as its field."""


class WireError(ValueError):
    """What was passed is not as it has to be."""


class BoxError(RuntimeError):
    """What was asked cannot be done."""


class Missing(BoxError):
    """Nothing is chosen for a plain want; the path has the keys that were asked."""

    def __init__(self, path):
        self.path = path


class Ambiguous(BoxError):
    """None of the bindings with these names is more special than all others."""

    def __init__(self, names):
        self.names = names


class Captive(BoxError):
    """A node has a later level than that at which it is reached."""

    def __init__(self, path):
        self.path = path


class Ring(BoxError):
    """A node is on the way to itself."""

    def __init__(self, path):
        self.path = path


class TooDeep(BoxError):
    """The key of a want passes the bounds of terms."""

    def __init__(self, path):
        self.path = path


class TooMany(BoxError):
    """There would be more than this number."""

    def __init__(self, number):
        self.number = number


class Closed(BoxError):
    """The scope or handle with this number is closed."""

    def __init__(self, number):
        self.number = number


class NoLevel(BoxError):
    """A scope would be entered below one of the last level."""

    def __init__(self, given):
        self.given = given


class Failed(BoxError):
    """The part with this name failed to make a thing."""

    def __init__(self, given):
        self.given = given


class BadWord(WireError):
    """A value that is no word."""

    def __init__(self, given):
        self.given = given


class BadTerm(WireError):
    """A value that is no term."""

    def __init__(self, given):
        self.given = given


class BadPattern(WireError):
    """A value that is no pattern, or no substitution."""

    def __init__(self, given):
        self.given = given


class BadKey(WireError):
    """A value that is no key."""

    def __init__(self, given):
        self.given = given


class BadText(WireError):
    """A text that is none of its kind, from the sign with this number on."""

    def __init__(self, place):
        self.place = place


class BadPart(WireError):
    """A parameter of a part that is not as it has to be."""

    def __init__(self, field):
        self.field = field


class NotFor(WireError):
    """A key for which the part is not."""

    def __init__(self, given):
        self.given = given


class BadLevels(WireError):
    """Levels that are no tuple of different words."""

    def __init__(self, index):
        self.index = index


class BadParent(WireError):
    """A value that cannot be the parent of the container."""

    def __init__(self, given):
        self.given = given


class BadLayers(WireError):
    """Layers that are no tuples of parts."""

    def __init__(self, path):
        self.path = path


class SameName(WireError):
    """A part whose name stood before in the chain."""

    def __init__(self, path):
        self.path = path


class UnknownLevel(WireError):
    """A binding whose level the container has not."""

    def __init__(self, path):
        self.path = path


class Twice(WireError):
    """A binding with the tag and an alike pattern of one before it in the layer."""

    def __init__(self, path):
        self.path = path


class TooLarge(WireError):
    """Too many parts or patterns."""

    def __init__(self, number):
        self.number = number


class NoPart(WireError):
    """A value that is the name of no part of the chain."""

    def __init__(self, given):
        self.given = given


class BadContainer(WireError):
    """A value that is no container."""

    def __init__(self, given):
        self.given = given


class BadNode(WireError):
    """A value that is no node of the container."""

    def __init__(self, given):
        self.given = given


class BadLevel(WireError):
    """A value that is no level of the container."""

    def __init__(self, given):
        self.given = given


class BadScope(WireError):
    """A value that is no number of a scope."""

    def __init__(self, given):
        self.given = given


class BadThing(WireError):
    """A value that is no number of a thing."""

    def __init__(self, given):
        self.given = given


class BadBox(WireError):
    """A value that is no box."""

    def __init__(self, given):
        self.given = given


class BadHandle(WireError):
    """A value that is no number of a handle."""

    def __init__(self, given):
        self.given = given


class BadContainers(WireError):
    """Containers that cannot be those of a log."""

    def __init__(self, index):
        self.index = index


class BadLog(WireError):
    """A log that is no tuple of rows."""

    def __init__(self, index):
        self.index = index


class BadRow(WireError):
    """A row that is no tuple of commands."""

    def __init__(self, index):
        self.index = index


class BadRoots(WireError):
    """Roots that are no tuple of keys and levels of the container."""

    def __init__(self, index):
        self.index = index


class BadChange(WireError):
    """Changes that are none of the container."""

    def __init__(self, index):
        self.index = index


class Unchecked(WireError):
    """Roots for which the check tells this."""

    def __init__(self, given):
        self.given = given


class Troubled(WireError):
    """Parts with these names have failing or bad endings."""

    def __init__(self, names):
        self.names = names


class Unlike(WireError):
    """Two containers that differ in what has to be the same."""

    def __init__(self, field):
        self.field = field


class BadNames(WireError):
    """A value that is no tuple of names that differ."""

    def __init__(self, given):
        self.given = given


class BadModule(WireError):
    """A text that is that of no container, from the line with this number on."""

    def __init__(self, line):
        self.line = line
