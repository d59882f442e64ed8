"""Answers on a graph that is given with a tree decomposition."""

from smallwidth.bags import fault, term_of, width_of
from smallwidth.engine import Engine
from smallwidth.errors import BadBags, BadValues
from smallwidth.formula import free
from smallwidth.gathering import BestSet, Numbers, NumbersBySize, gathered
from smallwidth.graph import edge_between
from smallwidth.terms import vertices_with_labels

MOST_FREE = 3


def answer(graph, tree, formula):
    """Whether a sentence holds in a graph."""
    return ways(graph, tree, formula, 0) == 1


def count(graph, tree, formula):
    """How many ways there are to give values to the free variables."""
    return ways(graph, tree, formula, MOST_FREE)


def ways(graph, tree, formula, most):
    """What `count` tells, for a formula with at most so many free variables."""
    check_tree(graph, tree)
    if len(free(formula)) > most:
        raise BadValues("the formula has too many free variables")
    number = kept_of(graph, tree, formula, Numbers())
    return 0 if number is None else number


def sizes(graph, tree, formula):
    """How many sets of each size satisfy a formula."""
    check_tree(graph, tree)
    many = len(members_of(graph, formula))
    numbers = kept_of(graph, tree, formula, NumbersBySize())
    found = [] if numbers is None else numbers
    return [*found, *[0] * (many + 1 - len(found))]


def best(graph, tree, formula, greatest):
    """The size and the members of a greatest or least set, or None."""
    check_tree(graph, tree)
    members = members_of(graph, formula)
    keeping = BestSet(len(members), greatest)
    kept = kept_of(graph, tree, formula, keeping)
    if kept is None:
        return None
    size, places = keeping.told(kept)
    return size, tuple([members[place] for place in places])


def check_tree(graph, tree):
    """Raises an error if a value is no decomposition of a graph."""
    if not isinstance(tree, tuple) or len(tree) != 2 or fault(graph, *tree) is not None:
        raise BadBags("this is no decomposition of the graph")


def members_of(graph, formula):
    """What can be in the sets that satisfy a formula, in ascending order."""
    sorts = [sort for sort, _ in free(formula)]
    if sorts == ["V"]:
        return list(range(graph.size))
    if sorts == ["E"]:
        return list(graph.edges)
    raise BadValues("the formula has not one free set alone")


def kept_of(graph, tree, formula, keeping):
    """What is kept of the values for which a formula holds: see `gathered`."""
    bags, parents = tree
    k = max(0, width_of(bags))
    term, order = term_of(graph, bags, parents, k)
    return gathered(Engine(formula), term, numbers_in(graph, term, order, k), keeping)


def numbers_in(graph, term, order, k):
    """For each step the number of the vertex or edge that it makes, or None.

    These are the vertices of the given graph, and the places of its edges.
    """
    _, bearers = vertices_with_labels(term, k)
    places = {edge: place for place, edge in enumerate(graph.edges)}
    found = []
    for step, bearing in zip(term, bearers):
        ends = [order[bearing[label]] for label in step[1:] if label in bearing]
        if step[0] == "new":
            found.append(ends[0])
        elif step[0] == "edge":
            found.append(places[edge_between(*ends)])
        else:
            found.append(None)
    return found
