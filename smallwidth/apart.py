"""The least graphs of classes, and graphs that tell two sentences apart."""

from heapq import heappop, heappush

from smallwidth.errors import TooMany
from smallwidth.tables import Table

MOST_NODES = 4000


def least_of(table):
    """For each class a tuple (vertices, edges, term) of a least graph."""
    found = LeastTerms([table]).found
    return [found[(c,)] for c in range(table.size)]


def difference(first, second, k):
    """A least graph in which exactly one of two sentences holds.

    It is told as `least_of` tells it, and None if there is no such graph.
    """
    tables = [Table(first, k), Table(second, k)]
    found = LeastTerms(tables).found
    for node, least in found.items():
        if tables[0].holds(node[0]) != tables[1].holds(node[1]):
            return least
    return None


def alike(first, second, k):
    """Whether two sentences hold in the same graphs."""
    return difference(first, second, k) is None


class LeastTerms:
    """The least graphs of all classes of one table, or pairs of classes of two.

    A node is the tuple of the classes of a term in the tables. For each node
    `found` has a tuple (vertices, edges, term), the smaller graphs first.
    """

    def __init__(self, tables):
        self.found = {}
        self._tables = tables
        self._with_labels = {}
        # The numbers of vertices, edges and steps of the best term so far.
        self._sizes = {}
        self._waiting = []
        self._offer(tuple([0 for _ in tables]), (0, 0, 1), ("empty",), ())
        # No step makes a graph smaller. So the least graph that waits is the
        # least one of its node, whatever is still to come.
        while self._waiting:
            _, node, step, taken = heappop(self._waiting)
            if node not in self.found:
                self._take(node, step, taken)

    def _offer(self, node, size, step, taken):
        """Lets a term wait, if it is better than all before it.

        The step leads to the node from those that are taken.
        """
        if node not in self._sizes or size < self._sizes[node]:
            self._sizes[node] = size
            heappush(self._waiting, (size, node, step, taken))

    def _take(self, node, step, taken):
        """Finds a node, and offers all to which one more step leads."""
        if len(self.found) == MOST_NODES:
            raise TooMany("the terms have too many different pairs of classes")
        term = []
        for other in taken:
            term.extend(self.found[other][2])
        vertices, edges, _ = self._sizes[node]
        self.found[node] = (vertices, edges, (*term, step))
        self._offer_steps(node)
        self._offer_joins(node)

    def _offer_steps(self, node):
        """Offers what the steps "new", "edge" and "forget" lead to."""
        vertices, edges, steps = self._sizes[node]
        for step in self._tables[0].all_steps():
            target = tuple([table.after(c, step) for table, c in zip(self._tables, node)])
            if None not in target:
                new = 1 if step[0] == "new" else 0
                edge = 1 if step[0] == "edge" else 0
                size = (vertices + new, edges + edge, steps + 1)
                self._offer(target, size, step, (node,))

    def _offer_joins(self, node):
        """Offers the joins with what was found before, and with itself."""
        labels, _ = self._tables[0].frame(node[0])
        group = self._with_labels.setdefault(labels, [])
        group.append(node)
        rows = [table.joins_of(c) for table, c in zip(self._tables, node)]
        vertices, edges, steps = self._sizes[node]
        for other in group:
            target = tuple([row[c] for row, c in zip(rows, other)])
            if None not in target and target not in self.found:
                more = self._sizes[other]
                both = (vertices + more[0] - len(labels), edges + more[1], steps + more[2] + 1)
                self._offer(target, both, ("join",), (other, node))
