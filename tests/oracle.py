"""What DOC.md says, worked out in other ways than in the program, for small cases and whole universes."""

import functools
import itertools
import re

WORD = re.compile(r"[a-z][a-z0-9_]{0,11}\Z")
LEAF_TEXT = re.compile(r"[a-z][a-z0-9_]*|[A-Z]")
INNERMOST = re.compile(r"([a-z][a-z0-9_]*)\[([^\[\]]*)\]")


def is_text(text, variables, tagged):
    """Whether a text is that of a term, pattern or key: brackets are taken away from the inside to the outside."""
    if tagged and "#" in text:
        text, tag = text.split("#", 1)
        if not WORD.match(tag):
            return False
    if not re.fullmatch(r"[a-z0-9_A-Z\[\], ]+", text):
        return False
    names = LEAF_TEXT.findall(text)
    if len(names) > 12 or max((len(name) for name in names), default=0) > 12:
        return False
    if not variables and any(name.isupper() for name in names):
        return False
    depth = 1
    while "[" in text:
        found = INNERMOST.search(text)
        if not found:
            return False
        parts = found[2].split(", ")
        if len(parts) > 3 or not all(re.fullmatch(r"[a-z][a-z0-9_]*|[A-Z]|<\d>", part) for part in parts):
            return False
        inner = 1 + max(int(part[1]) if part[0] == "<" else 1 for part in parts)
        depth = max(depth, inner)
        if depth > 4:
            return False
        text = text[:found.start()] + f"<{inner}>" + text[found.end():]
    return bool(re.fullmatch(r"[a-z][a-z0-9_]*|[A-Z]|<\d>", text))


@functools.lru_cache(None)
def can_begin(text, variables, tagged):
    """Whether some text begins so: if one does, then it is this with one word and closing brackets at most."""
    for middle in ("", "a", " a"):
        for closing in range(4):
            if is_text(text + middle + "]" * closing, variables, tagged):
                return True
    return False


def bad_place(text, variables, tagged):
    """The place that BadText has to tell, or None."""
    if is_text(text, variables, tagged):
        return None
    for length in range(1, len(text) + 1):
        if not can_begin(text[:length], variables, tagged):
            return length
    return len(text) + 1


def universe(words, leaves, depth):
    """All shapes of words with their numbers of parts, and leaves, up to this depth."""
    found = list(leaves)
    for _ in range(depth):
        more = list(leaves)
        for word, many in words:
            more += [(word, parts) for parts in itertools.product(found, repeat=many)]
        found = more
    return found


def passes_bounds(shape):
    """Whether a shape is too deep or too large."""
    places = [(shape, 1)]
    for value, depth in places:
        if not isinstance(value, str):
            places += [(part, depth + 1) for part in value[1]]
    return len(places) > 12 or max(depth for _, depth in places) > 4


def shape_variables(shape):
    if isinstance(shape, str):
        return {shape}
    return set().union(*[shape_variables(part) for part in shape[1]])


def exchanged(shape, values):
    if isinstance(shape, str):
        return values.get(shape, shape)
    return (shape[0], tuple(exchanged(part, values) for part in shape[1]))


def parts_within(shape):
    yield shape
    for part in shape[1]:
        yield from parts_within(part)


def matches(pattern, term):
    """Whether some substitution makes the pattern this term: all with parts of the term as values are tried."""
    names = sorted(shape_variables(pattern))
    values = list(dict.fromkeys(parts_within(term)))
    for row in itertools.product(values, repeat=len(names)):
        if exchanged(pattern, dict(zip(names, row))) == term:
            return True
    return False
