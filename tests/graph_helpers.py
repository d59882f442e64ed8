"""What several test files need: many graphs, and pictures of them."""

from itertools import combinations, permutations

from smallwidth.graph import Graph


def every_pair(size):
    """All edges that a graph of this size can have, in ascending order."""
    return list(combinations(range(size), 2))


def full(size):
    return Graph(size, every_pair(size))


def circle(size):
    return Graph(size, [(v, v + 1) for v in range(size - 1)] + [(0, size - 1)])


def path(size):
    return Graph(size, [(v, v + 1) for v in range(size - 1)])


def every_graph(size):
    """All graphs on these vertices, alike or not."""
    pairs = every_pair(size)
    found = []
    for many in range(len(pairs) + 1):
        for edges in combinations(pairs, many):
            found.append(Graph(size, list(edges)))
    return found


def picture(graph):
    """All that a graph tells of itself, in values of Python's own."""
    return (
        graph.size,
        graph.edges,
        tuple(tuple(graph.near(v)) for v in range(graph.size)),
        tuple(graph.has(u, v) for u in range(graph.size) for v in range(graph.size)),
    )


def least_by_trying(graph):
    """The least tuple of edges among all renumberings, by the definition."""
    best = None
    for number in permutations(range(graph.size)):
        pairs = [(number[u], number[v]) for u, v in graph.edges]
        edges = tuple(sorted((min(pair), max(pair)) for pair in pairs))
        if best is None or edges < best:
            best = edges
    return best


def pieces_by_merging(graph, gone=()):
    """The components of the graph without some vertices, by giving names."""
    name = {v: v for v in range(graph.size) if v not in gone}
    for u, v in graph.edges:
        if u in name and v in name:
            old, new = name[v], name[u]
            name = {w: new if name[w] == old else name[w] for w in name}
    return sorted(tuple(v for v in name if name[v] == word) for word in set(name.values()))


def some_graph(source, size):
    """A graph of this size, chosen at random."""
    share = source.random()
    return Graph(size, [pair for pair in every_pair(size) if source.random() < share])
