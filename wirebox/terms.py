"""Terms, keys and their texts.

A shape is a term, or a pattern: a term with letters at some of its places. Which letters
a shape may have is told by a string, so what is common to both is written only once.
"""

from wirebox.errors import BadKey, BadTerm, BadText
from wirebox.words import LETTERS, MOST_SIGNS, SIGNS, is_tag, is_word

MOST_DEPTH = 4
MOST_SIZE = 12
MOST_PARTS = 3


def shape_size(value, letters, levels):
    """The size of a shape of at most so many levels, 0 for any other value."""
    if levels == 0:
        return 0
    if isinstance(value, str):
        return 1 if len(value) == 1 and value in letters else 0
    if not is_word_with_parts(value):
        return 0
    size = 1
    for part in value[1]:
        inner = shape_size(part, letters, levels - 1)
        if inner == 0:
            return 0
        size = size + inner
    return size


def is_word_with_parts(value):
    """Whether a value has the outer form of a term, whatever its parts are."""
    if not isinstance(value, tuple) or len(value) != 2:
        return False
    word, parts = value
    return is_word(word) and isinstance(parts, tuple) and len(parts) <= MOST_PARTS


def is_shape(value, letters):
    """Whether a value is a shape with these letters within the bounds."""
    size = shape_size(value, letters, MOST_DEPTH)
    return size > 0 and size <= MOST_SIZE


def shape_text(shape):
    """The text of a shape."""
    if isinstance(shape, str):
        return shape
    word, parts = shape
    if len(parts) == 0:
        return word
    inner = ", ".join([shape_text(part) for part in parts])
    return word + "[" + inner + "]"


def is_term(value):
    """Whether a value is a term."""
    return is_shape(value, "")


def is_key(value):
    """Whether a value is a pair of a term and a tag."""
    return isinstance(value, tuple) and len(value) == 2 and is_term(value[0]) and is_tag(value[1])


class Reader:
    """Reads a text from its front, and raises BadText at the first sign that cannot stand."""

    def __init__(self, text, letters):
        if not isinstance(text, str):
            raise BadText(0)
        self.text = text
        self.letters = letters
        self.at = 0
        self.size = 0

    def sees(self, signs):
        """Whether one of these signs comes next."""
        return self.at < len(self.text) and self.text[self.at] in signs

    def take(self, signs):
        """Go behind the next sign, which has to be one of these."""
        if not self.sees(signs):
            raise BadText(self.at + 1)
        self.at += 1

    def read_word(self):
        """Read a word, as far as its signs go."""
        start = self.at
        self.take(LETTERS)
        while self.at - start < MOST_SIGNS and self.sees(SIGNS):
            self.at += 1
        return self.text[start:self.at]

    def read_shape(self, depth):
        """Read a shape that stands at this depth of the whole one."""
        self.size += 1
        if self.sees(self.letters):
            self.at += 1
            return self.text[self.at - 1]
        word = self.read_word()
        # A bracket opens only where one more word still fits: so no text within the bounds begins otherwise.
        if depth < MOST_DEPTH and self.size < MOST_SIZE and self.sees("["):
            return (word, self.read_parts(depth + 1))
        return (word, ())

    def read_parts(self, depth):
        """Read the parts in brackets, which stand at this depth."""
        self.take("[")
        parts = [self.read_shape(depth)]
        while len(parts) < MOST_PARTS and self.size < MOST_SIZE and self.sees(","):
            self.take(",")
            self.take(" ")
            parts.append(self.read_shape(depth))
        self.take("]")
        return tuple(parts)

    def read_tag(self):
        """Read # and a word, or nothing."""
        if not self.sees("#"):
            return ""
        self.take("#")
        return self.read_word()

    def finish(self):
        """Refuse any sign that is left."""
        if self.at < len(self.text):
            raise BadText(self.at + 1)


def read_shape_text(text, letters):
    """The shape with these letters that has this text."""
    reader = Reader(text, letters)
    shape = reader.read_shape(1)
    reader.finish()
    return shape


def need_term(term):
    """Refuse what is no term."""
    if not is_term(term):
        raise BadTerm(term)


def depth_of(term):
    """The depth of a term."""
    need_term(term)
    return 1 + max([depth_of(part) for part in term[1]], default=0)


def size_of(term):
    """The number of words in a term."""
    need_term(term)
    return shape_size(term, "", MOST_DEPTH)


def term_text(term):
    """The text of a term."""
    need_term(term)
    return shape_text(term)


def need_key(key):
    """Refuse what is no key."""
    if not is_key(key):
        raise BadKey(key)


def tagged_text(shape, tag):
    """The text of a shape, and # and the tag if there is one."""
    if len(tag) == 0:
        return shape_text(shape)
    return shape_text(shape) + "#" + tag


def key_text(key):
    """The text of a key."""
    need_key(key)
    return tagged_text(key[0], key[1])


def read_term(text):
    """The term that has this text."""
    return read_shape_text(text, "")


def read_key(text):
    """The key that has this text."""
    reader = Reader(text, "")
    term = reader.read_shape(1)
    tag = reader.read_tag()
    reader.finish()
    return (term, tag)
