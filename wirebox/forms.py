"""The normal form of a container for roots: what can be seen of it in logs."""

from wirebox.checking import check
from wirebox.errors import Troubled, Unchecked
from wirebox.finding import Finder, maker_of, mark_of
from wirebox.roots import nodes_in_question


class Form:
    """The nodes in question of a fit container, numbered from 0, with all that the normal form tells of them."""

    def __init__(self, finder, roots):
        noted = nodes_in_question(finder, roots, None)
        self.finder = finder
        self.nodes = list(noted.values())
        self.numbers = {mark: number for number, mark in enumerate(noted)}
        self.root_numbers = [self.numbers_of(finder.link("plain", finder.top, key)[2])[0] for key, _ in roots]
        self.wants_told = [self.wants_at(node) for node in self.nodes]
        # By number: the nodes that hold a node, each as often as it does, and whether it is free.
        self.holders = [[] for _ in self.nodes]
        self.is_free = [False for _ in self.nodes]
        self.note_holders()
        self.lives_told = [self.life_at(number) for number in range(len(self.nodes))]

    def numbers_of(self, nodes):
        """The tuple of the numbers of nodes."""
        return tuple([self.numbers[mark_of(node)] for node in nodes])

    def wants_at(self, node):
        """What the wants of a node come to, as pairs of a word and numbers."""
        told = []
        for link, nodes in zip(self.finder.links_of(node), self.finder.led_by(node)):
            told.append(("one" if link[0] == "inner" else link[0], self.numbers_of(nodes)))
        return tuple(told)

    def note_holders(self):
        """Note for all nodes which nodes hold them, and whether they are free."""
        for number in self.root_numbers:
            self.is_free[number] = True
        for holder, wants in enumerate(self.wants_told):
            for word, numbers in wants:
                for number in numbers:
                    if word == "lazy":
                        self.is_free[number] = True
                    else:
                        self.holders[number].append(holder)

    def level_at(self, number):
        """The level of a node, or None."""
        return self.finder.top.part(self.nodes[number][0]).level

    def life_at(self, number):
        """The life of a node: its level, or that to which the only one that holds it comes so, or None."""
        while self.level_at(number) is None and not self.is_free[number] and len(self.holders[number]) == 1:
            # What holds a thing is never held by it, so this comes to an end.
            number = self.holders[number][0]
        return self.level_at(number)

    def maker_at(self, number):
        """The last wrapper of a node, or its binding."""
        return self.finder.top.part(maker_of(self.nodes[number]))

    def entry(self, number):
        """What the normal form tells of a node."""
        has_end = self.maker_at(number).has_end
        return (self.nodes[number], has_end, self.lives_told[number], self.wants_told[number])

    def whole(self):
        """The normal form."""
        return (tuple(self.root_numbers), tuple([self.entry(number) for number in range(len(self.nodes))]))


def names_in_trouble(form):
    """The ascending tuple of the names of parts in question that have failing or bad endings."""
    noted = {}
    for number in range(len(form.nodes)):
        part = form.maker_at(number)
        if len(part.failing) > 0 or len(part.bad_end) > 0:
            noted[part.name] = True
    return tuple(sorted(noted))


def fit_form(container, roots):
    """The form of a container that has to be fit for roots."""
    found = check(container, roots)
    if found is not None:
        raise Unchecked(found)
    form = Form(Finder(container), roots)
    names = names_in_trouble(form)
    if len(names) > 0:
        raise Troubled(names)
    return form


def normal_form(container, roots):
    """The numbers of the nodes of roots, and for each node in question itself, has_end, its life and its wants."""
    return fit_form(container, roots).whole()


def holdings(container, roots):
    """For each node in question how many times it is held, and whether it is free."""
    form = fit_form(container, roots)
    return tuple([(len(holders), is_free) for holders, is_free in zip(form.holders, form.is_free)])
