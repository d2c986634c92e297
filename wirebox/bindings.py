"""Bindings and wrappers, the parts of containers, and what they want for a key."""

from wirebox.errors import BadPart, NotFor
from wirebox.patterns import filled, fits, is_pattern, variables_of
from wirebox.terms import is_term, need_key
from wirebox.words import is_integer, is_tag, is_word

FORMS = ("plain", "maybe", "all", "lazy")
MOST_WANTS = 6
MOST_NUMBERS = 20
GREATEST_NUMBER = 1000


def need_field(is_right, field):
    """Refuse a part for the parameter of this name if that is not right."""
    if not is_right:
        raise BadPart(field)


def is_want(value, variables):
    """Whether a value is a want of a part whose pattern has these variables."""
    if not isinstance(value, tuple) or len(value) != 3:
        return False
    form, pattern, tag = value
    if not isinstance(form, str) or form not in FORMS or not is_pattern(pattern) or not is_tag(tag):
        return False
    return all([name in variables for name in variables_of(pattern)])


def are_wants(value, pattern):
    """Whether a value is what a part of this pattern may have as its wants."""
    if not isinstance(value, tuple) or len(value) > MOST_WANTS:
        return False
    variables = variables_of(pattern)
    return all([is_want(want, variables) for want in value])


def are_numbers(value):
    """Whether a value is a tuple of not too many ascending numbers."""
    if not isinstance(value, tuple) or len(value) > MOST_NUMBERS:
        return False
    last = 0
    for number in value:
        if not is_integer(number) or number <= last or number > GREATEST_NUMBER:
            return False
        last = number
    return True


def check_aim(name, pattern, tag):
    """Refuse what cannot be the name, the pattern and the tag of a part."""
    need_field(is_word(name), "name")
    need_field(is_pattern(pattern), "pattern")
    need_field(is_tag(tag), "tag")


def check_making(pattern, wants, has_end, failing, bad_end):
    """Refuse what a part of this pattern cannot have for making and ending things."""
    need_field(are_wants(wants, pattern), "wants")
    need_field(isinstance(has_end, bool), "has_end")
    need_field(are_numbers(failing), "failing")
    need_field(are_numbers(bad_end) and (has_end or len(bad_end) == 0), "bad_end")


class Binding:
    """Tells of what something is made for the keys of a pattern, and how long it lives."""

    def __init__(self, name, pattern, *, tag="", level=None, wants=(), has_end=False, failing=(), bad_end=()):
        check_aim(name, pattern, tag)
        need_field(level is None or is_word(level), "level")
        check_making(pattern, wants, has_end, failing, bad_end)
        self._name = name
        self._pattern = pattern
        self._tag = tag
        self._level = level
        self._wants = wants
        self._has_end = has_end
        self._failing = failing
        self._bad_end = bad_end

    @property
    def name(self):
        """The word by which the binding is called."""
        return self._name

    @property
    def pattern(self):
        """The pattern of the terms for which the binding is."""
        return self._pattern

    @property
    def tag(self):
        """The tag of the keys for which the binding is."""
        return self._tag

    @property
    def level(self):
        """The level at which its things are kept, or None."""
        return self._level

    @property
    def wants(self):
        """The tuple of its wants."""
        return self._wants

    @property
    def has_end(self):
        """Whether its things have an end."""
        return self._has_end

    @property
    def failing(self):
        """The numbers of the attempts that fail."""
        return self._failing

    @property
    def bad_end(self):
        """The numbers of the endings that are bad."""
        return self._bad_end

    def __eq__(self, other):
        return (
            isinstance(other, Binding)
            and self.name == other.name
            and self.pattern == other.pattern
            and self.tag == other.tag
            and self.level == other.level
            and self.wants == other.wants
            and self.has_end == other.has_end
            and self.failing == other.failing
            and self.bad_end == other.bad_end
        )


class Wrapper:
    """Tells what is put around the things for the keys of a pattern."""

    def __init__(self, name, pattern, *, tag="", wants=(), has_end=False, failing=(), bad_end=()):
        check_aim(name, pattern, tag)
        check_making(pattern, wants, has_end, failing, bad_end)
        self._name = name
        self._pattern = pattern
        self._tag = tag
        self._wants = wants
        self._has_end = has_end
        self._failing = failing
        self._bad_end = bad_end

    @property
    def name(self):
        """The word by which the wrapper is called."""
        return self._name

    @property
    def pattern(self):
        """The pattern of the terms for which the wrapper is."""
        return self._pattern

    @property
    def tag(self):
        """The tag of the keys for which the wrapper is."""
        return self._tag

    @property
    def wants(self):
        """The tuple of its wants, without the inner thing."""
        return self._wants

    @property
    def has_end(self):
        """Whether its things have an end."""
        return self._has_end

    @property
    def failing(self):
        """The numbers of the attempts that fail."""
        return self._failing

    @property
    def bad_end(self):
        """The numbers of the endings that are bad."""
        return self._bad_end

    def __eq__(self, other):
        return (
            isinstance(other, Wrapper)
            and self.name == other.name
            and self.pattern == other.pattern
            and self.tag == other.tag
            and self.wants == other.wants
            and self.has_end == other.has_end
            and self.failing == other.failing
            and self.bad_end == other.bad_end
        )


def is_part(value):
    """Whether a value is a binding or a wrapper."""
    return isinstance(value, (Binding, Wrapper))


def suits(part, key):
    """Whether a part is for a key."""
    term, tag = key
    return part.tag == tag and fits(part.pattern, term, {})


def is_for(part, key):
    """Whether a part is for a key."""
    need_field(is_part(part), "part")
    need_key(key)
    return suits(part, key)


def wants_for(part, key):
    """Pairs of the forms and keys of what a part wants for a key for which it is, None for a key that is too deep."""
    values = {}
    fits(part.pattern, key[0], values)
    found = []
    for form, pattern, tag in part.wants:
        term = filled(pattern, values)
        found.append((form, (term, tag) if is_term(term) else None))
    return tuple(found)


def wanted(part, key):
    """Pairs of the forms and keys of what a part wants for a key, in order, None for a key that is too deep."""
    if not is_for(part, key):
        raise NotFor(key)
    return wants_for(part, key)
