"""The width of a graph, and orders in which its vertices are taken away.

Sets of vertices are integers, as smallwidth/masks.py tells.
"""

from smallwidth.graph import check_at_most, pieces_without
from smallwidth.masks import members, neighbours, size_of

MOST_IN_WIDTH = 12


def components(graph, without):
    """The components of the graph without some vertices, in order."""
    return [tuple(piece) for piece in pieces_without(graph, without)]


def order_width(graph, order):
    """The width of an order."""
    return max([len(around) for around in around_in_order(graph, order)], default=-1)


def around_in_order(graph, order):
    """For each vertex in an order, its neighbours when it is taken away."""
    near = neighbours(graph)
    found = []
    for vertex in order:
        found.append(members(near[vertex]))
        near = taken_away(near, vertex)
    return found


def taken_away(near, vertex):
    """The neighbours of all vertices when one has been taken away."""
    around = near[vertex]
    left = []
    for other, mask in enumerate(near):
        if around >> other & 1:
            # Both the vertex and the other one itself are in the union.
            left.append((mask | around) ^ (1 << vertex) ^ (1 << other))
        else:
            left.append(mask)
    left[vertex] = 0
    return left


def bags_of_order(graph, order):
    """The decomposition that belongs to an order."""
    if not order:
        return ((),), (-1,)
    last = len(order) - 1
    place = {vertex: at for at, vertex in enumerate(order)}
    around = around_in_order(graph, order)
    bags = []
    parents = []
    for at in reversed(range(len(order))):
        bags.append(tuple(sorted([order[at], *around[at]])))
        # The bag 0 is at the last place, and has the parent -1.
        parents.append(last - min([place[v] for v in around[at]], default=last))
    parents[0] = -1
    return tuple(bags), tuple(parents)


def width(graph):
    """The width of a graph."""
    check_at_most(graph, MOST_IN_WIDTH)
    return least_widths(graphs_left(graph))[0]


def decomposition(graph):
    """A decomposition of the graph's width: that of its least order."""
    return bags_of_order(graph, least_order(graph))


def least_order(graph):
    """The least one among the orders of the graph's width."""
    check_at_most(graph, MOST_IN_WIDTH)
    near = graphs_left(graph)
    widths = least_widths(near)
    order = []
    taken = 0
    while len(order) < graph.size:
        vertex = next_in_order(near[taken], widths, taken)
        order.append(vertex)
        taken |= 1 << vertex
    return tuple(order)


def next_in_order(near, widths, taken):
    """The least vertex by which an order of the graph's width can go on."""
    fitting = []
    for vertex, around in enumerate(near):
        more = taken | 1 << vertex
        if more != taken and max(size_of(around), widths[more]) <= widths[0]:
            fitting.append(vertex)
    return fitting[0]


def graphs_left(graph):
    """For each set of vertices, the neighbours of all when it is taken away."""
    # In which order they are taken away does not matter: two vertices that
    # are left become neighbours if a path between them goes through the set.
    left = [neighbours(graph)]
    for taken in range(1, 1 << graph.size):
        last = taken.bit_length() - 1
        left.append(taken_away(left[taken ^ (1 << last)], last))
    return left


def least_widths(left):
    """For each set of vertices, the least width of an order of the others.

    The set is taken away first, as `graphs_left` tells.
    """
    widths = [-1] * len(left)
    for taken in reversed(range(len(left) - 1)):
        found = []
        for vertex, around in enumerate(left[taken]):
            more = taken | 1 << vertex
            if more != taken:
                found.append(max(size_of(around), widths[more]))
        widths[taken] = min(found)
    return widths
