"""Papers, which tell why a container chooses as it does, and keys for which two containers are apart."""

from wirebox.bindings import Binding
from wirebox.choosing import bindings_for, contenders, foremost, is_less, names_of
from wirebox.containers import need_container, placed_parts
from wirebox.errors import TooLarge
from wirebox.patterns import VARIABLES, filled, fits, meet, named_by_places, variables_of
from wirebox.terms import need_key, shape_text

MOST_PATTERNS = 500


def word_for(binding, key, layer, later):
    """The word of a binding in a paper, and the tuple of all names that may stand beside it.

    It stands in this layer; these are the bindings of later layers that are for the key.
    """
    if binding.tag != key[1]:
        return "tag", ()
    if not fits(binding.pattern, key[0], {}):
        return "unlike", ()
    if len(later) > 0:
        return "covered", names_of(later)
    suited = bindings_for(layer, key)
    more = [other for other in suited if is_less(binding, other)]
    if len(more) > 0:
        return "less", names_of(more)
    return ("chosen" if len(foremost(suited)) == 1 else "equal"), ()


def own_rows(container, key):
    """The rows of a paper for the bindings of one container, each with all names that may stand in it."""
    rows = []
    for at, layer in enumerate(container.layers):
        later = []
        for other in container.layers[at + 1:]:
            later.extend(bindings_for(other, key))
        for part in layer:
            if isinstance(part, Binding):
                word, names = word_for(part, key, layer, later)
                rows.append((part.name, word, names))
    return rows


def wide_paper(container, key):
    """The rows of the paper for a key, each with all names that may stand in it."""
    rows = []
    for home in reversed(container.chain):
        rows.extend(own_rows(home, key))
        if any([len(bindings_for(layer, key)) > 0 for layer in home.layers]):
            return rows
    return rows


def paper(container, key):
    """The paper for a key: a tuple of rows (name, word, other)."""
    need_container(container)
    need_key(key)
    rows = wide_paper(container, key)
    return tuple([(name, word, names[0] if len(names) > 0 else None) for name, word, names in rows])


def is_row(value, row):
    """Whether any value is this row with one of the names that may stand in it."""
    if not isinstance(value, tuple) or len(value) != 3:
        return False
    name, word, other = value
    if not isinstance(name, str) or not isinstance(word, str) or name != row[0] or word != row[1]:
        return False
    if len(row[2]) == 0:
        return other is None
    return isinstance(other, str) and other in row[2]


def is_paper(container, key, value):
    """Whether any value is a paper for a key."""
    need_container(container)
    need_key(key)
    rows = wide_paper(container, key)
    if not isinstance(value, tuple) or len(value) != len(rows):
        return False
    return all([is_row(told, row) for told, row in zip(value, rows)])


def patterns_by_tag(containers):
    """By tag, the different patterns of the bindings of these containers, named by places."""
    found = {}
    for container in containers:
        for _, part in placed_parts(container.layers):
            if isinstance(part, Binding):
                pattern = named_by_places(part.pattern, VARIABLES)
                noted = found.setdefault(part.tag, [])
                if pattern not in noted:
                    noted.append(pattern)
    return found


def with_meets(patterns, room):
    """These patterns, their meets, the meets with these and so on, refused if there are more than fit into the room."""
    found = list(patterns)
    noted = {shape_text(pattern): True for pattern in patterns}
    at = 0
    while at < len(found) and len(found) <= room:
        # The meet of any of these patterns comes by meeting one of them after the other.
        for pattern in patterns:
            # Most pairs are comparable, and telling so is far quicker than their meet.
            met = found[at] if fits(pattern, found[at], {}) else meet(found[at], pattern)
            if met is not None and shape_text(met) not in noted:
                noted[shape_text(met)] = True
                found.append(met)
        at += 1
    if len(found) > room:
        raise TooLarge(MOST_PATTERNS)
    return found


def note_words(pattern, noted):
    """Note all words of a pattern in this dict."""
    if isinstance(pattern, str):
        return
    word, parts = pattern
    noted[word] = True
    for part in parts:
        note_words(part, noted)


def unused_words(patterns, many):
    """So many words without parts, as terms, that occur in none of these patterns."""
    noted = {}
    for pattern in patterns:
        note_words(pattern, noted)
    found = []
    number = 0
    while len(found) < many:
        number += 1
        if f"new{number}" not in noted:
            found.append((f"new{number}", ()))
    return found


def apart(one, other):
    """A key for which two containers are apart, or None."""
    need_container(one)
    need_container(other)
    general = {}
    room = MOST_PATTERNS
    for tag, patterns in patterns_by_tag(one.chain + other.chain).items():
        general[tag] = with_meets(patterns, room)
        room -= len(general[tag])
    for tag, patterns in general.items():
        fresh = unused_words(patterns, len(VARIABLES))
        for pattern in patterns:
            key = (filled(pattern, dict(zip(variables_of(pattern), fresh))), tag)
            if names_of(contenders(one, key)) != names_of(contenders(other, key)):
                return key
    return None
