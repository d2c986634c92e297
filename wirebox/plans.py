"""Plans, which tell ahead what an asking will do."""

from wirebox.boxes import Box
from wirebox.errors import BadBox, Failed


def plan(box, scope, key):
    """The tuple of the rows that asking a key in a scope would put into the log behind "asked"."""
    if not isinstance(box, Box):
        raise BadBox(box)
    twin = box.twin()
    try:
        twin.ask(scope, key)
    except Failed:
        # A failing is one of the things that a plan tells.
        pass
    return twin.log[len(box.log) + 1:]
