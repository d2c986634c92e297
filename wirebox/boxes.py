"""Boxes, which make, keep and put away the things of which a container tells."""

from wirebox.containers import need_container
from wirebox.errors import BadHandle, BadScope, BadThing, Closed, NoLevel, TooDeep, TooMany
from wirebox.finding import Finder, looks_like_node, maker_of
from wirebox.making import Maker, held_numbers
from wirebox.states import State
from wirebox.terms import need_key
from wirebox.walking import Walk
from wirebox.words import is_integer, is_word

MOST_SCOPES = 100
MOST_THINGS = 2000


class Box:
    """Runs a container: makes things in nested scopes, keeps them, and puts them away."""

    def __init__(self, container):
        need_container(container)
        self._finder = Finder(container)
        self._state = State()

    @property
    def container(self):
        """The container that the box runs."""
        return self._finder.top

    @property
    def log(self):
        """The tuple of the rows of all that happened."""
        return tuple(self._state.rows)

    @property
    def scopes(self):
        """The ascending tuple of the numbers of the open scopes."""
        return tuple([scope for scope in self._state.closed if not self._state.closed[scope]])

    def enter(self, scope):
        """Enter a scope below this one, and tell its number."""
        self._need_open(scope)
        levels = self.container.levels
        if self._state.depths[scope] == len(levels) - 1:
            raise NoLevel(levels[-1])
        if len(self._state.above) == MOST_SCOPES:
            raise TooMany(MOST_SCOPES)
        return self._state.enter(scope)

    def ask(self, scope, key):
        """The number of the thing that a key gives in a scope."""
        self._need_open(scope)
        need_key(key)
        return self._give(self.container, scope, key, ("asked", scope, key))

    def use(self, handle):
        """The number of the thing that using a handle gives."""
        self._need_handle(handle)
        number, key = self._state.handles[handle]
        if number not in self._state.living:
            raise Closed(handle)
        node, scope, _ = self._state.things[number]
        if key is None:
            raise TooDeep((node[1],))
        return self._give(self.container.home(maker_of(node)), scope, key, ("used", handle))

    def close(self, scope):
        """Close a scope and those below it, and tell the numbers of the things whose endings were bad."""
        self._need_open(scope)
        return tuple(self._state.close(scope, self.container))

    def level_at(self, scope):
        """The level of a scope."""
        self._need_scope(scope)
        return self.container.levels[self._state.depths[scope]]

    def things_in(self, scope):
        """The ascending tuple of the numbers of the things that live in a scope."""
        self._need_scope(scope)
        return tuple(self._state.things_in(scope))

    def kept_at(self, scope, node):
        """The number of the kept thing of a node that lives in a scope, or None, for any value as the node."""
        self._need_scope(scope)
        if not looks_like_node(node):
            return None
        return self._state.kept_thing(scope, node)

    def thing(self, number):
        """The node and the scope of a thing, and what it holds."""
        self._need_thing(number)
        return self._state.things[number]

    def lives(self, number):
        """Whether a thing was not put away."""
        self._need_thing(number)
        return number in self._state.living

    def holders_of(self, number):
        """The ascending tuple of the numbers of the living things that hold a thing."""
        self._need_thing(number)
        things = self._state.things
        return tuple([holder for holder in self._state.living if number in held_numbers(things[holder][2])])

    def handle_of(self, handle):
        """The number of the thing to which a handle belongs, and the key that using it asks."""
        self._need_handle(handle)
        return self._state.handles[handle]

    def attempts_of(self, name):
        """How often a part was tried."""
        return self._state.attempts.get(name, 0) if is_word(name) else 0

    def endings_of(self, name):
        """How many endings a part had."""
        return self._state.endings.get(name, 0) if is_word(name) else 0

    def twin(self):
        """A box of its own in the same state."""
        other = Box(self.container)
        other._state = self._state.copied()
        return other

    def go_on_with(self, container, numbers):
        """Put these things away, and go on with another container with the same levels."""
        self._state.rows.append(("exchanged",))
        self._state.put_away(numbers, self.container)
        self._finder = Finder(container)

    def _give(self, home, scope, key, row):
        """The number of the thing that a key gives that is asked in a container; the row tells of the asking."""
        walk = Walk(self._finder)
        total = walk.resolve_counted(home, key, self._state.depths[scope])
        if len(self._state.things) + total > MOST_THINGS:
            raise TooMany(MOST_THINGS)
        self._state.rows.append(row)
        number = Maker(self._state, self._finder).give(walk.root(), scope)
        self._state.rows.append(("gave", number))
        return number

    def _need_scope(self, scope):
        """Refuse what is no number of a scope."""
        if not is_integer(scope) or scope not in self._state.above:
            raise BadScope(scope)

    def _need_open(self, scope):
        """Refuse what is no number of an open scope."""
        self._need_scope(scope)
        if self._state.closed[scope]:
            raise Closed(scope)

    def _need_thing(self, number):
        """Refuse what is no number of a thing."""
        if not is_integer(number) or number not in self._state.things:
            raise BadThing(number)

    def _need_handle(self, handle):
        """Refuse what is no number of a handle."""
        if not is_integer(handle) or handle not in self._state.handles:
            raise BadHandle(handle)
