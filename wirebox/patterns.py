"""Patterns, their variables, and how they match and meet."""

from wirebox.errors import BadPattern
from wirebox.terms import MOST_SIZE, is_shape, need_term, read_shape_text, shape_text

VARIABLES = "ABCDEFGHIJKLMNOPQRSTUVWXYZ"


def is_variable(value):
    """Whether a value is a string of one letter A to Z."""
    return isinstance(value, str) and len(value) == 1 and value in VARIABLES


def is_pattern(value):
    """Whether a value is a pattern."""
    return is_shape(value, VARIABLES)


def need_pattern(pattern):
    """Refuse what is no pattern."""
    if not is_pattern(pattern):
        raise BadPattern(pattern)


def pattern_text(pattern):
    """The text of a pattern."""
    need_pattern(pattern)
    return shape_text(pattern)


def read_pattern(text):
    """The pattern that has this text."""
    return read_shape_text(text, VARIABLES)


def note_variables(pattern, noted):
    """Put the variables of a pattern that are not yet in this list behind it."""
    if isinstance(pattern, str):
        if pattern not in noted:
            noted.append(pattern)
        return
    for part in pattern[1]:
        note_variables(part, noted)


def variables_of(pattern):
    """The different variables of a pattern by their first places."""
    need_pattern(pattern)
    noted = []
    note_variables(pattern, noted)
    return tuple(noted)


def fits(pattern, shape, found):
    """Whether a pattern becomes a shape by what is found for its variables, and what is added to it here.

    Variables of the shape stand for themselves alone, even if they are called like those of the pattern.
    """
    if isinstance(pattern, str):
        if pattern not in found:
            found[pattern] = shape
        return found[pattern] == shape
    if is_clash(pattern, shape):
        return False
    for part, counterpart in zip(pattern[1], shape[1]):
        if not fits(part, counterpart, found):
            return False
    return True


def is_clash(one, other):
    """Whether one of both is a variable, or their words or numbers of parts are unlike."""
    if isinstance(one, str) or isinstance(other, str):
        return True
    return one[0] != other[0] or len(one[1]) != len(other[1])


def match(pattern, term):
    """The substitution of the pattern's variables that makes it this term, or None."""
    need_pattern(pattern)
    need_term(term)
    found = {}
    if fits(pattern, term, found):
        return found
    return None


def filled(pattern, values):
    """What a pattern becomes if all its variables that have a value are exchanged for it at once."""
    if isinstance(pattern, str):
        return values.get(pattern, pattern)
    word, parts = pattern
    return (word, tuple([filled(part, values) for part in parts]))


def is_substitution(value):
    """Whether a value is a dict from variables to patterns."""
    if not isinstance(value, dict):
        return False
    return all([is_variable(name) and is_pattern(pattern) for name, pattern in value.items()])


def put_in(pattern, substitution):
    """The pattern behind putting a substitution into it."""
    need_pattern(pattern)
    if not is_substitution(substitution):
        raise BadPattern(substitution)
    result = filled(pattern, substitution)
    if not is_pattern(result):
        raise BadPattern(None)
    return result


def is_as_special(one, other):
    """Whether one pattern is at least as special as the other one."""
    need_pattern(one)
    need_pattern(other)
    return fits(other, one, {})


def are_alike(one, other):
    """Whether two patterns differ at most in the names of variables."""
    return is_as_special(one, other) and is_as_special(other, one)


def named_by_places(pattern, letters):
    """The same pattern with these letters, in turn, as variables by their first places."""
    return filled(pattern, dict(zip(variables_of(pattern), letters)))


def difference(one, other):
    """The parts of both at the first place at which they differ, or None."""
    if is_clash(one, other):
        return None if one == other else (one, other)
    for part, counterpart in zip(one[1], other[1]):
        found = difference(part, counterpart)
        if found is not None:
            return found
    return None


def unified(one, other):
    """The most general pattern that both become by values for their variables, or None."""
    gap = difference(one, other)
    while gap is not None:
        name, value = gap
        if not isinstance(name, str):
            name, value = value, name
        if not isinstance(name, str) or name in variables_of(value):
            return None
        one = filled(one, {name: value})
        other = filled(other, {name: value})
        # The result is at least as large and deep as what comes on the way to it.
        if not is_pattern(one) or not is_pattern(other):
            return None
        gap = difference(one, other)
    return one


def meet(one, other):
    """The most general pattern that is at least as special as both, or None."""
    need_pattern(one)
    need_pattern(other)
    # A pattern has at most MOST_SIZE variables, so these names are unlike.
    met = unified(named_by_places(one, VARIABLES), named_by_places(other, VARIABLES[MOST_SIZE:]))
    if met is None:
        return None
    return named_by_places(met, VARIABLES)
