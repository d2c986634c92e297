"""Steps in one row of scopes, done without the bounds of boxes, and the commands that do them in a box.

A step is ("ask", key, depth), or ("use", node, place, depth) for the handle of the want at a place of a node. Levels
are told by their numbers, as depths.
"""

from wirebox.finding import maker_of, mark_of
from wirebox.making import Maker
from wirebox.states import State


class Run:
    """Scopes, each below the one in front of it, and what was done in them; nothing that is asked may be refused."""

    def __init__(self, finder):
        self.finder = finder
        self.state = State()
        self.scopes_by_depth = [1]
        self.commands = []
        # By mark of a node and scope, the first thing of this node that lives there.
        self.first_things = {}
        self.seen = 0

    def descend(self, depth):
        """Enter scopes as far as to this depth."""
        while len(self.scopes_by_depth) <= depth:
            above = self.scopes_by_depth[-1]
            self.commands.append(("enter", above))
            self.scopes_by_depth.append(self.state.enter(above))

    def note_things(self):
        """Note where the things live that were made since the last time."""
        for number in range(self.seen + 1, len(self.state.things) + 1):
            node, scope, _ = self.state.things[number]
            self.first_things.setdefault((mark_of(node), scope), number)
        self.seen = len(self.state.things)

    def handle(self, node, place, scope):
        """The least handle of the want at a place of a node in a thing that lives in a scope."""
        self.note_things()
        number = self.first_things[(mark_of(node), scope)]
        return self.state.things[number][2][place][1]

    def tell(self, step):
        """Note the commands of a step."""
        if step[0] == "ask":
            _, key, depth = step
            self.descend(depth)
            self.commands.append(("ask", self.scopes_by_depth[depth], key))
        else:
            _, node, place, depth = step
            self.commands.append(("use", self.handle(node, place, self.scopes_by_depth[depth])))

    def take(self, step):
        """Note the commands of a step, and do it."""
        self.tell(step)
        scope = self.scopes_by_depth[step[-1]]
        if step[0] == "ask":
            self.give(self.finder.top, step[1], scope)
        else:
            home = self.finder.top.home(maker_of(step[1]))
            self.give(home, self.state.handles[self.commands[-1][1]][1], scope)

    def give(self, home, key, scope):
        """Make what a key comes to that is asked in a container, in a scope."""
        node = self.finder.link("plain", home, key)[2][0]
        Maker(self.state, self.finder).give(node, scope)
