"""Least forms: one graph for all those that are alike."""

from smallwidth.graph import Graph, check_at_most

MOST_IN_LEAST_FORM = 7


def least_form(graph):
    """The graph with the least tuple of edges, of all that are alike."""
    check_at_most(graph, MOST_IN_LEAST_FORM)
    return Graph(graph.size, least_edges(graph))


def least_edges(graph):
    """The edges of the least form, as an ascending list."""
    # Of two ascending tuples with equally many edges, the lesser one is
    # that which has the first edge in which they differ. So the vertices
    # get their numbers one after the other, and each one's later neighbours
    # must stand as early as possible. A *way* is a choice of the vertices
    # numbered so far: the tuple of the cells of the other ones, which get
    # the next numbers cell by cell, in any order within a cell. All ways
    # that are kept have given the same edges, and so have cells of the same
    # lengths.
    edges = []
    ways = [(tuple(range(graph.size)),)]
    for number in range(graph.size):
        row, ways = best_row(graph, ways)
        edges.extend(row_edges(number, row))
    return edges


def best_row(graph, ways):
    """The best row for the next number, and the ways that it leaves."""
    best = ()
    left = {}
    for cells in ways:
        for vertex in cells[0]:
            row, split = split_by(graph, cells, vertex)
            if row > best:
                best = row
                left = {}
            if row == best:
                left[split] = True
    return best, list(left)


def split_by(graph, cells, vertex):
    """The row of a vertex, and the cells when it has got its number.

    The row tells for each cell the pair of the number of neighbours in it
    and its length, without the vertex itself.
    """
    row = []
    split = []
    for cell in cells:
        near = tuple(v for v in cell if graph.has(vertex, v))
        far = tuple(v for v in cell if v != vertex and v not in near)
        row.append((len(near), len(near) + len(far)))
        split.extend([some for some in (near, far) if some])
    return tuple(row), tuple(split)


def row_edges(number, row):
    """The edges that the row of the vertex with a number tells."""
    edges = []
    start = number + 1
    for near, length in row:
        edges.extend([(number, start + k) for k in range(near)])
        start += length
    return edges


def all_graphs(size):
    """The least forms of all graphs with so many vertices."""
    found = []
    level = [()] if size >= 0 else []
    while level:
        found.extend([Graph(size, list(edges)) for edges in level])
        level = with_one_more(size, level)
    return found


def with_one_more(size, level):
    """The edges of all least forms with one edge more, in ascending order."""
    # Each graph with an edge comes from one with an edge less, and so, up
    # to the numbers of its vertices, from the least form of that one.
    pairs = [(u, v) for v in range(size) for u in range(v)]
    found = {}
    for edges in level:
        for pair in pairs:
            if pair not in edges:
                more = Graph(size, [*edges, pair])
                found[tuple(least_edges(more))] = True
    return sorted(found)
