"""Keys, parts and containers, written short."""

from wirebox.bindings import Binding, Wrapper
from wirebox.containers import Container
from wirebox.patterns import read_pattern
from wirebox.terms import key_text, read_key


def aim(text):
    """The pattern and the tag of a text such as "repo[T]#main"."""
    shape, _, tag = text.partition("#")
    return read_pattern(shape), tag


def want(text):
    """The want of a text such as "lazy repo[T]#main"."""
    form, _, rest = text.partition(" ")
    return (form, *aim(rest))


def bind(name, text=None, *wants, **settings):
    """A binding for the keys of a text, by default that of its name."""
    pattern, tag = aim(text or name)
    return Binding(name, pattern, tag=tag, wants=tuple(want(each) for each in wants), **settings)


def wrap(name, text, *wants, **settings):
    """A wrapper for the keys of a text."""
    pattern, tag = aim(text)
    return Wrapper(name, pattern, tag=tag, wants=tuple(want(each) for each in wants), **settings)


def box_of(*parts, levels="app request", parent=None):
    """A container with these parts in one layer."""
    return Container(tuple(levels.split()), (parts,), parent=parent)


def layers_of(*layers, levels="app request", parent=None):
    """A container with these layers."""
    return Container(tuple(levels.split()), tuple(tuple(layer) for layer in layers), parent=parent)


def keys(text):
    """The tuple of the keys of texts with blanks between them."""
    return tuple(read_key(each) for each in text.split())


def texts(told):
    """The texts of keys, with blanks between them."""
    return " ".join(key_text(key) for key in told)


def names(parts):
    """The names of parts, with blanks between them."""
    return " ".join(part.name for part in parts)


def field_of(test, error, call, *told, **named):
    """The field of the error that a call raises."""
    with test.assertRaises(error) as caught:
        call(*told, **named)
    test.assertIs(caught.exception.__class__, error)
    return list(vars(caught.exception).values())[0]
