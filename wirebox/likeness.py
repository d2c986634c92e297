"""Whether fit containers are alike, and rows that separate them."""

from wirebox.containers import Container
from wirebox.errors import BadContainer
from wirebox.forms import fit_form
from wirebox.rows import are_commands, play
from wirebox.separating import Guide, row_of, separating_part

MOST_THINGS = 2000


def fit_forms(one, other, roots):
    """The forms of two containers that have to be fit for roots, and have the same levels."""
    form = fit_form(one, roots)
    if not isinstance(other, Container) or other.levels != one.levels:
        raise BadContainer(other)
    return (form, fit_form(other, roots))


def part_by(guide, one, other):
    """A row by the plans of a guide that separates two containers within the bounds of boxes, or None."""
    for plan in guide.best_plans():
        row = row_of(guide.form.finder, plan, MOST_THINGS)
        part = None if row is None else separating_part(one, other, row)
        if part is not None:
            return part
    return None


def alike(one, other, roots):
    """None if two containers are alike for roots, otherwise a row that separates them."""
    form, other_form = fit_forms(one, other, roots)
    if form.whole() == other_form.whole():
        return None
    guide = Guide(form, other_form, roots)
    part = part_by(guide, one, other)
    if part is None:
        # What takes too many things in one box may take fewer in the other one.
        part = part_by(Guide(other_form, form, roots), one, other)
    if part is None:
        part = row_of(form.finder, guide.best_plans()[0], None)
    return part


def is_asked(levels, roots, depth, key):
    """Whether a key may be asked in a scope of this depth, by roots."""
    for root, level in roots:
        if root == key and levels.index(level) <= depth:
            return True
    return False


def asks_roots(levels, roots, row):
    """Whether all that a row asks may be asked by roots."""
    depths = {1: 0}
    for command in row:
        if command[0] == "enter" and command[1] in depths:
            depths[len(depths) + 1] = depths[command[1]] + 1
        elif command[0] == "ask":
            if command[1] not in depths or not is_asked(levels, roots, depths[command[1]], command[2]):
                return False
    return True


def separates(one, other, roots, value):
    """Whether any value is a row that separates two containers, within the bounds of boxes."""
    fit_forms(one, other, roots)
    if not are_commands(value) or not asks_roots(one.levels, roots, value):
        return False
    log, stop = play(one, value)
    other_log, other_stop = play(other, value)
    for told in (stop, other_stop):
        if told is not None and told[1] == "TooMany":
            return False
    if stop is None and other_stop is None:
        return log != other_log
    return stop is None or other_stop is None
