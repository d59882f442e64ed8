"""Questions about all graphs of small width at once."""

from smallwidth.answers import answer
from smallwidth.apart import difference
from smallwidth.least import all_graphs
from smallwidth.masks import mask_of, members
from smallwidth.tables import Table, check_sentence
from smallwidth.terms import made
from smallwidth.width import decomposition, width

MOST_IN_FIRST = 4


def failing(formula, k):
    """A least graph in which a sentence does not hold, or None."""
    return parting_graph(formula, ("true",), k)


def parting_graph(first, second, k):
    """A least graph in which exactly one of two sentences holds, or None."""
    found = difference(first, second, k)
    if found is None:
        return None
    graph, _ = made(found[2], k)
    return graph


def orders(formula, k, most):
    """The numbers of vertices, up to the most, for which a sentence can hold."""
    table = Table(formula, k)
    whole = 0
    for c, numbers in enumerate(numbers_of_vertices(table, most)):
        if table.holds(c):
            whole |= numbers
    return members(whole)


def numbers_of_vertices(table, most):
    """For each class how many vertices its graphs can have, up to the most.

    The numbers are put together as masks.py does it with vertices.
    """
    allowed = mask_of(list(range(most + 1)))
    found = [0] * table.size
    new = [0] * table.size
    new[0] = allowed & 1
    while any(new):
        for c in range(table.size):
            fresh = new[c]
            found[c] |= fresh
            new[c] = 0
            if fresh:
                for target, numbers in numbers_behind(table, c, fresh, found):
                    new[target] |= numbers & allowed & ~found[target]
    return found


def numbers_behind(table, c, numbers, found):
    """The classes that one step makes of a class, with numbers of vertices.

    The class is taken with these numbers, what it is joined with as found.
    """
    labels, _ = table.frame(c)
    behind = []
    for step in table.all_steps():
        target = table.after(c, step)
        if target is not None:
            behind.append((target, numbers << 1 if step[0] == "new" else numbers))
    for other, target in enumerate(table.joins_of(c)):
        if target is not None and found[other]:
            sums = 0
            for number in members(numbers):
                sums |= found[other] << number
            behind.append((target, sums >> len(labels)))
    return behind


def first_graphs(formula, k, count):
    """The first graphs in which a sentence holds."""
    check_sentence(formula, k)
    found = []
    for size in range(MOST_IN_FIRST + 1):
        for graph in all_graphs(size):
            if len(found) < count and width(graph) <= k:
                if answer(graph, decomposition(graph), formula):
                    found.append(graph)
    return found
