"""Rows of commands, and what boxes do by them."""

from wirebox.boxes import Box
from wirebox.containers import need_container
from wirebox.errors import BadRow
from wirebox.faults import fault_of
from wirebox.rebuilding import container_with, part_with
from wirebox.terms import is_key
from wirebox.words import is_count

WORDS = ("enter", "ask", "use", "close")


def is_command(value):
    """Whether any value is a command by its form."""
    if not isinstance(value, tuple) or len(value) < 2 or not isinstance(value[0], str) or value[0] not in WORDS:
        return False
    if not is_count(value[1]):
        return False
    if value[0] == "ask":
        return len(value) == 3 and is_key(value[2])
    return len(value) == 2


def are_commands(value):
    """Whether any value is a row of commands by its form."""
    return isinstance(value, tuple) and all([is_command(command) for command in value])


def need_row(row):
    """Refuse what is no row of commands."""
    if not isinstance(row, tuple):
        raise BadRow(None)
    for index, command in enumerate(row):
        if not is_command(command):
            raise BadRow(index)


def bare_part(part):
    """A part without failing and bad endings that is otherwise like the given one."""
    return part_with(part, wants=part.wants, failing=(), bad_end=())


def bare(container):
    """A container, and its parents, without all failing and bad endings."""
    need_container(container)
    return container_with(container, bare_part)


def obey(box, command):
    """Do a command in a box."""
    word = command[0]
    if word == "enter":
        box.enter(command[1])
    elif word == "ask":
        box.ask(command[1], command[2])
    elif word == "use":
        box.use(command[1])
    else:
        box.close(command[1])


def fault_at(box, command):
    """Do a command in a box, and tell what it raises, as the name of the class and its field, or None."""
    return fault_of(lambda: obey(box, command))


def play(container, row):
    """The log of a new box that does a row, and None or what stops it: an index, a word and what is told."""
    need_container(container)
    need_row(row)
    box = Box(container)
    for index, command in enumerate(row):
        fault = fault_at(box, command)
        if fault is not None:
            return (box.log, (index, fault[0], fault[1]))
    return (box.log, None)
