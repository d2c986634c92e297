"""Making things, with all that they hold."""

from wirebox.errors import Failed
from wirebox.finding import maker_of


def held_numbers(holds):
    """The numbers of the things that a thing holds, handles left out."""
    numbers = []
    for told in holds:
        if isinstance(told, int):
            numbers.append(told)
        elif told is not None and told[:1] != ("handle",):
            numbers.extend(told)
    return numbers


class Attempt:
    """A thing that is being made: what its wants come to, and the numbers of the things that it got so far."""

    def __init__(self, node, scope, links):
        self.node = node
        self.scope = scope
        self.links = links
        self.needs = [need for _, _, told in links for need in told]
        self.numbers = []


class Maker:
    """Gives the thing of a node, as one asking does it; the node has to be resolved.

    What is being made stands in a list, as it may be more than Python has room for calls in calls.
    """

    def __init__(self, state, finder):
        self.state = state
        self.finder = finder
        self.first = len(state.things) + 1
        self.pending = []

    def give(self, node, scope):
        """The number of the thing that asking for a node in a scope gives."""
        number = self.fetch(node, scope)
        while len(self.pending) > 0:
            attempt = self.pending[-1]
            if number is not None:
                attempt.numbers.append(number)
            if len(attempt.numbers) < len(attempt.needs):
                number = self.fetch(attempt.needs[len(attempt.numbers)], attempt.scope)
            else:
                number = self.finish(attempt)
        return number

    def fetch(self, node, scope):
        """The number of the kept thing of a node; without one, begin to make it and tell None."""
        depth = self.finder.depth_of(node)
        if depth is not None:
            scope = self.state.scope_at(scope, depth)
            number = self.state.kept_thing(scope, node)
            if number is not None:
                return number
        self.pending.append(Attempt(node, scope, self.finder.links_of(node)))
        return None

    def finish(self, attempt):
        """Try the last thing that is being made, which got all that it needs."""
        self.pending.pop()
        node = attempt.node
        if not self.state.is_tried_well(node, attempt.scope, self.finder.top):
            self.state.put_away(self.left_over(), self.finder.top)
            raise Failed(maker_of(node))
        is_kept = self.finder.depth_of(node) is not None
        return self.state.add_thing(node, attempt.scope, attempt.links, attempt.numbers, is_kept)

    def left_over(self):
        """What was made in this asking but the kept things and what these hold."""
        stays = {}
        things = self.state.things
        # What holds something was made behind it.
        for number in range(len(things), self.first - 1, -1):
            node, _, holds = things[number]
            if number in stays or self.finder.depth_of(node) is not None:
                stays[number] = True
                for held in held_numbers(holds):
                    stays[held] = True
        return [number for number in range(self.first, len(things) + 1) if number not in stays]
