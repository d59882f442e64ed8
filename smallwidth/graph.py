"""Graphs, and what is made of them."""

from smallwidth.errors import BadGraph, TooLarge

MOST_VERTICES = 60


def is_number(value):
    """Whether a value is an integer; True and False are none."""
    return isinstance(value, int) and not isinstance(value, bool)


def is_vertex(value, size):
    """Whether a value is a vertex of the graphs with so many vertices."""
    return is_number(value) and 0 <= value < size


def is_edge(value, size):
    """Whether a value can be an edge of a graph with so many vertices."""
    if not isinstance(value, tuple) or len(value) != 2:
        return False
    u, v = value
    return is_vertex(u, size) and is_vertex(v, size) and u < v


def is_ascending(value, size):
    """Whether a value is an ascending tuple of vertices, for this size."""
    if not isinstance(value, tuple):
        return False
    least = 0
    for vertex in value:
        if not is_vertex(vertex, size) or vertex < least:
            return False
        least = vertex + 1
    return True


class Graph:
    """The vertices 0 to `size` - 1, and the ascending tuple `edges`."""

    def __init__(self, size, edges):
        # The words of the errors do not show the values: Python refuses
        # to write out a very large integer, with an error of its own.
        if not is_number(size) or not 0 <= size <= MOST_VERTICES:
            raise BadGraph("the number of vertices is out of range")
        seen = set()
        for edge in edges:
            if not is_edge(edge, size):
                raise BadGraph("a member of the list is no edge of this graph")
            if edge in seen:
                raise BadGraph("an edge occurs twice")
            seen.add(edge)
        self.size = size
        self.edges = tuple(sorted(seen))
        self._near = near_lists(size, self.edges)

    def has(self, u, v):
        """Whether there is an edge between two vertices, in either order."""
        self._check_vertex(u)
        self._check_vertex(v)
        return v in self._near[u]

    def near(self, u):
        """The neighbours of a vertex, in ascending order."""
        self._check_vertex(u)
        return list(self._near[u])

    def _check_vertex(self, value):
        if not is_vertex(value, self.size):
            raise BadGraph("there is no such vertex")


def near_lists(size, edges):
    """The list of the neighbours of each vertex, for ascending edges."""
    # Each list ascends: the edges to lesser neighbours, which begin with
    # the neighbour, come before those that begin with the vertex itself.
    near = [[] for _ in range(size)]
    for u, v in edges:
        near[u].append(v)
        near[v].append(u)
    return near


def same(first, second):
    """Whether two graphs have as many vertices and the same edges."""
    return first.size == second.size and first.edges == second.edges


def part(graph, vertices):
    """The graph on a list of vertices, which are numbered by their indexes."""
    places = {}
    for place, vertex in enumerate(vertices):
        if not is_vertex(vertex, graph.size):
            raise BadGraph("a member of the list is no vertex")
        if vertex in places:
            raise BadGraph("a vertex occurs twice")
        places[vertex] = place
    kept = []
    for u, v in graph.edges:
        if u in places and v in places:
            kept.append(edge_between(places[u], places[v]))
    return Graph(len(places), kept)


def edge_between(u, v):
    """The edge between two different vertices."""
    return (min(u, v), max(u, v))


def renumbered(graph, order):
    """The graph whose vertex i is the vertex number order[i] of this one."""
    if len(order) != graph.size:
        raise BadGraph("the list is not one of all vertices")
    return part(graph, order)


def without(graph, edge):
    """The graph without one of its edges."""
    # True equals 1: that the edge is found among the edges is not enough.
    if not is_edge(edge, graph.size) or edge not in graph.edges:
        raise BadGraph("there is no such edge")
    return Graph(graph.size, [other for other in graph.edges if other != edge])


def together(first, second):
    """Both graphs side by side, the vertices of the second one raised."""
    raised = [(u + first.size, v + first.size) for u, v in second.edges]
    return Graph(first.size + second.size, [*first.edges, *raised])


def pieces(graph):
    """The connected components, as ascending lists of vertices."""
    return pieces_without(graph, ())


def pieces_without(graph, gone):
    """The connected components of the graph without some vertices."""
    seen = {vertex: True for vertex in gone}
    found = []
    for start in range(graph.size):
        if start not in seen:
            found.append(reached(graph, start, seen))
    return found


def reached(graph, start, seen):
    """The vertices to which a path leads past those seen, in ascending order.

    They are entered among those seen.
    """
    seen[start] = True
    waiting = [start]
    piece = []
    while waiting:
        vertex = waiting.pop()
        piece.append(vertex)
        for other in graph.near(vertex):
            if other not in seen:
                seen[other] = True
                waiting.append(other)
    return sorted(piece)


def is_connected(graph):
    """Whether there is at most one connected component."""
    return len(pieces(graph)) <= 1


def check_at_most(graph, most):
    """Raises TooLarge if a graph has more vertices than that."""
    if graph.size > most:
        raise TooLarge(f"this is told for at most {most} vertices")
