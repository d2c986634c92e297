"""Rings of nodes, whatever their levels: which changes could break them, and which rings are left by some changes.

Nodes are told here by their numbers. A thread is a triple (number, place, change): by the want at this place a node
leads to the one with this number, and the change, a pair of a name and a place, breaks that; it is None if none does.
"""


def order_behind(start, nexts, seen):
    """The nodes to which one leads that were not seen yet, and itself, each behind those to which it leads."""
    found = []
    seen[start] = True
    way = [start]
    done = [0]
    while len(way) > 0:
        node = way[-1]
        if done[-1] < len(nexts[node]):
            following = nexts[node][done[-1]]
            done[-1] += 1
            if following not in seen:
                seen[following] = True
                way.append(following)
                done.append(0)
        else:
            found.append(way.pop())
            done.pop()
    return found


def reversed_nexts(nexts):
    """For each node those that lead to it."""
    found = [[] for _ in nexts]
    for node, followers in enumerate(nexts):
        for following in followers:
            found[following].append(node)
    return found


def groups_of(nexts):
    """For each node the number of its group: two nodes are of one group if each leads to the other one."""
    order = []
    seen = {}
    for node in range(len(nexts)):
        if node not in seen:
            order.extend(order_behind(node, nexts, seen))
    backs = reversed_nexts(nexts)
    groups = {}
    noted = {}
    for start in reversed(order):
        if start not in noted:
            for node in order_behind(start, backs, noted):
                groups[node] = start
    return groups


def threads_of_rings(threads):
    """For each node those of its threads that stand in some ring."""
    groups = groups_of([[thread[0] for thread in row] for row in threads])
    found = []
    for node, row in enumerate(threads):
        found.append([thread for thread in row if groups[thread[0]] == groups[node]])
    return found


class Search:
    """Looks for a ring that none of some changes breaks."""

    def __init__(self, threads, broken):
        self.left = [[thread for thread in row if thread[2] not in broken] for row in threads]
        self.seen = {}
        self.way = []
        self.done = []
        self.places = {}

    def go_to(self, node):
        """Go on to a node that was not seen."""
        self.seen[node] = True
        self.places[node] = len(self.way)
        self.way.append(node)
        self.done.append(0)

    def go_back(self):
        """Leave the last node on the way."""
        node = self.way.pop()
        self.done.pop()
        del self.places[node]

    def ring_from(self, start):
        """A ring to which a node leads, as a list of pairs of a node and its thread, or None."""
        self.go_to(start)
        while len(self.way) > 0:
            row = self.left[self.way[-1]]
            if self.done[-1] == len(row):
                self.go_back()
                continue
            self.done[-1] += 1
            following = row[self.done[-1] - 1][0]
            if following in self.places:
                return self.ring_at(self.places[following])
            if following not in self.seen:
                self.go_to(following)
        return None

    def ring_at(self, first):
        """The ring of the nodes on the way from this place on, each with the thread that was followed last."""
        found = []
        for at in range(first, len(self.way)):
            node = self.way[at]
            found.append((node, self.left[node][self.done[at] - 1]))
        return found


def ring_without(threads, broken):
    """A ring that none of these changes breaks, as a list of pairs of a node and its thread, or None."""
    search = Search(threads, broken)
    for node in range(len(threads)):
        if node not in search.seen:
            found = search.ring_from(node)
            if found is not None:
                return found
    return None
