"""What changes in a box: its scopes, things, handles and log."""

from wirebox.finding import maker_of, mark_of


class State:
    """The scopes, things, handles and log of a box, each numbered from 1."""

    def __init__(self):
        # By the number of a scope: the one above it, the number of its level from 0, and whether it was closed.
        self.above = {1: None}
        self.depths = {1: 0}
        self.closed = {1: False}
        # By the number of a thing: its node, its scope and what it holds; and the numbers of those that live.
        self.things = {}
        self.living = {}
        # By the number of a handle: the thing to which it belongs, and the key, None if it is too deep.
        self.handles = {}
        # By scope and mark of a node with a level: its thing that lives there.
        self.kept = {}
        self.rows = []
        # By the name of a part: how often it was tried, and how many endings it had.
        self.attempts = {}
        self.endings = {}

    def copied(self):
        """A state of its own that is like this one."""
        other = State()
        other.above = dict(self.above)
        other.depths = dict(self.depths)
        other.closed = dict(self.closed)
        other.things = dict(self.things)
        other.living = dict(self.living)
        other.handles = dict(self.handles)
        other.kept = {mark: self.kept[mark] for mark in self.kept}
        other.rows = list(self.rows)
        other.attempts = dict(self.attempts)
        other.endings = dict(self.endings)
        return other

    def enter(self, scope):
        """Enter a scope below another one."""
        number = len(self.above) + 1
        self.above[number] = scope
        self.depths[number] = self.depths[scope] + 1
        self.closed[number] = False
        self.rows.append(("entered", number, scope))
        return number

    def scope_at(self, scope, depth):
        """The scope of this depth: the given one, or one above it."""
        while self.depths[scope] > depth:
            scope = self.above[scope]
        return scope

    def kept_thing(self, scope, node):
        """The thing of a node with a level that lives in a scope, or None."""
        return self.kept.get((scope, mark_of(node)))

    def add_thing(self, node, scope, links, numbers, is_kept):
        """Give a new thing a number, and its lazy wants handles; the numbers are those of what it got, in order."""
        number = len(self.things) + 1
        holds = []
        at = 0
        for word, key, told in links:
            if word == "lazy":
                self.handles[len(self.handles) + 1] = (number, key)
                holds.append(("handle", len(self.handles)))
            elif word == "all":
                holds.append(tuple(numbers[at:at + len(told)]))
            else:
                holds.append(numbers[at] if len(told) > 0 else None)
            at += len(told)
        self.things[number] = (node, scope, tuple(holds))
        self.living[number] = True
        if is_kept:
            self.kept[(scope, mark_of(node))] = number
        self.rows.append(("made", number, maker_of(node), node[1], scope, tuple(holds)))
        return number

    def is_tried_well(self, node, scope, container):
        """Try to make a thing of a node, and tell whether that does not fail."""
        name = maker_of(node)
        attempt = self.attempts.get(name, 0) + 1
        self.attempts[name] = attempt
        if attempt not in container.part(name).failing:
            return True
        self.rows.append(("failed", name, node[1], scope, attempt))
        return False

    def end(self, number, container):
        """Put a thing away, and tell whether its ending was bad."""
        node, scope, _ = self.things[number]
        del self.living[number]
        if self.kept_thing(scope, node) == number:
            del self.kept[(scope, mark_of(node))]
        part = container.part(maker_of(node))
        how = None
        if part.has_end:
            ending = self.endings.get(part.name, 0) + 1
            self.endings[part.name] = ending
            how = ending not in part.bad_end
        self.rows.append(("ended", number, how))
        return how is False

    def put_away(self, numbers, container):
        """Put things away in reverse order of making, and tell those whose endings were bad."""
        bad = []
        for number in sorted(numbers, reverse=True):
            if self.end(number, container):
                bad.append(number)
        return bad

    def things_in(self, scope):
        """The ascending numbers of the things that live in a scope."""
        return [number for number in self.living if self.things[number][1] == scope]

    def open_below(self, scope):
        """The open scopes directly below a scope, that which was entered last first."""
        found = [number for number, above in self.above.items() if above == scope and not self.closed[number]]
        return sorted(found, reverse=True)

    def close(self, scope, container):
        """Close a scope, those below it first, and tell the things whose endings were bad."""
        bad = []
        for number in self.open_below(scope):
            bad.extend(self.close(number, container))
        bad.extend(self.put_away(self.things_in(scope), container))
        self.closed[scope] = True
        self.rows.append(("closed", scope))
        return bad
