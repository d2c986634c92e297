"""Values of many kinds, for functions that take any value."""


class Hostile:
    """An object that can be neither compared nor measured nor hashed."""

    def __eq__(self, other):
        raise AssertionError("compared")

    def __len__(self):
        raise AssertionError("measured")

    def __bool__(self):
        raise AssertionError("tested")

    def __iter__(self):
        raise AssertionError("iterated")

    __hash__ = None


def nested(many):
    """A tree that is many deep, and far too large to go through, or to show, place by place."""
    value = ("a", ())
    for _ in range(many):
        value = ("a", (value, value, value))
    return value


# None of these is a word, a term, a pattern, a key, a text or a substitution with items.
OTHER_KINDS = (
    None, True, False, 0, 1, -1, 10 ** 900, 1.5, float("nan"), 2j, b"", b"a", (), ("a",), ("a", (), ()), [], ["a", ()],
    {1: 2}, set(), frozenset(), object(), int, len, lambda: "a", range(3), Hostile(), (Hostile(), Hostile()),
    ("a", Hostile()), ("a", (Hostile(),)), nested(45), bytearray(b"a"),
)


def term(word, *parts):
    """A term or pattern, written short."""
    return (word, parts)


def chain_of(depth):
    """A term of this depth that has one part at each place."""
    value = ("a", ())
    for _ in range(depth - 1):
        value = ("a", (value,))
    return value


LEAF = ("a", ())
THREE = term("a", LEAF, LEAF)
FOUR = term("a", LEAF, LEAF, LEAF)
TWELVE = term("a", FOUR, FOUR, THREE)
THIRTEEN = term("a", FOUR, FOUR, FOUR)
