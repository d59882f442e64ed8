"""Decompositions: bags of vertices that form a tree."""

from smallwidth.errors import BadBags
from smallwidth.graph import edge_between, is_ascending, is_number, is_vertex
from smallwidth.terms import MOST_STEPS, operands, vertices_with_labels


def fault(graph, bags, parents):
    """The first reason why two values are no decomposition, or None."""
    if not have_form(graph, bags, parents):
        return ("form",)
    lying = bags_with(graph, bags)
    for vertex in range(graph.size):
        if not lying[vertex]:
            return ("vertex", vertex)
    for u, v in graph.edges:
        if first_bag(lying, u, v) is None:
            return ("edge", u, v)
    for vertex in range(graph.size):
        if not is_one_part(lying[vertex], parents):
            return ("apart", vertex)
    return None


def have_form(graph, bags, parents):
    """Whether two values are bags of vertices and parents of bags."""
    if not isinstance(bags, tuple) or not isinstance(parents, tuple):
        return False
    if len(bags) == 0 or len(bags) != len(parents):
        return False
    if not is_number(parents[0]) or parents[0] != -1:
        return False
    for number, bag in enumerate(bags):
        if not is_ascending(bag, graph.size):
            return False
        if number > 0 and not is_vertex(parents[number], number):
            return False
    return True


def bags_with(graph, bags):
    """For each vertex a dict, whose keys are the bags in which it lies."""
    lying = [{} for _ in range(graph.size)]
    for number, bag in enumerate(bags):
        for vertex in bag:
            lying[vertex][number] = True
    return lying


def first_bag(lying, u, v):
    """The first bag in which two vertices lie together, or None."""
    for number in lying[u]:
        if number in lying[v]:
            return number
    return None


def is_one_part(numbers, parents):
    """Whether some bags hang together in the tree."""
    # The root's parent -1 is no bag, so that the root counts as a top, too.
    tops = [number for number in numbers if parents[number] not in numbers]
    return len(tops) == 1


def width_of(bags):
    """The width of a decomposition."""
    return max([len(bag) for bag in bags]) - 1


def bags_of(term, k):
    """A decomposition of the graph of a term, with a bag for each step."""
    taken = operands(term, k)
    _, bearers = vertices_with_labels(term, k)
    last = len(term) - 1
    bags = []
    parents = [-1] * len(term)
    for index in reversed(range(len(term))):
        forgets = term[index][0] == "forget"
        held = taken[index][0] if forgets else index
        bags.append(tuple(sorted(bearers[held].values())))
        for at in taken[index]:
            parents[last - at] = last - index
    return tuple(bags), tuple(parents)


def term_of(graph, bags, parents, k):
    """A closed term for a decomposition, and the order of its vertices."""
    if fault(graph, bags, parents) is not None:
        raise BadBags("this is no decomposition of the graph")
    if width_of(bags) > k:
        raise BadBags("the width of the decomposition is too great")
    labels = labels_in(bags, parents)
    children = children_of(parents)
    edges = edges_of_bags(graph, bags)
    building = Building()
    for number in children_first(children):
        if not children[number]:
            building.begin(labels[number])
        building.join_by_edges(labels[number], edges[number])
        if number > 0:
            above = parents[number]
            building.change(labels[number], labels[above])
            if children[above][0] != number:
                building.steps.append(("join",))
    building.change(labels[0], {})
    if len(building.steps) > MOST_STEPS:
        raise BadBags("the term would have too many steps")
    return tuple(building.steps), tuple(building.order)


class Building:
    """A term on the way: its steps, and its vertices in their order."""

    def __init__(self):
        self.steps = []
        # The keys are the vertices in the order in which they are first
        # made. A vertex that is made again becomes the first one in a join.
        self.order = {}

    def begin(self, labels):
        """Puts a new graph on the stack, with vertices without edges."""
        self.steps.append(("empty",))
        self.change({}, labels)

    def change(self, labels, others):
        """Forgets what bears labels first, and makes what bears others then.

        Both are dicts from vertices to labels; the vertices in both stay.
        """
        for label, _ in labels_of_others(labels, others):
            self.steps.append(("forget", label))
        for label, vertex in labels_of_others(others, labels):
            self.steps.append(("new", label))
            self.order[vertex] = True

    def join_by_edges(self, labels, edges):
        """Makes edges between vertices with labels."""
        for u, v in edges:
            self.steps.append(("edge", *edge_between(labels[u], labels[v])))


def labels_of_others(labels, others):
    """The pairs (label, vertex) of the vertices without another label."""
    return sorted([(labels[v], v) for v in labels if v not in others])


def labels_in(bags, parents):
    """For each bag a dict from its vertices to their labels."""
    labels = []
    for number, bag in enumerate(bags):
        above = labels[parents[number]] if number > 0 else {}
        own = {vertex: above[vertex] for vertex in bag if vertex in above}
        used = list(own.values())
        unused = [label for label in range(len(bag)) if label not in used]
        others = [vertex for vertex in bag if vertex not in own]
        for vertex, label in zip(others, unused):
            own[vertex] = label
        labels.append(own)
    return labels


def children_of(parents):
    """For each bag the ascending list of its children."""
    children = [[] for _ in parents]
    for number, parent in enumerate(parents):
        if number > 0:
            children[parent].append(number)
    return children


def children_first(children):
    """The bags, each behind its children and all that is below these."""
    # This is turned round: the bags, each before its children, of which the
    # last one comes first.
    waiting = [0]
    found = []
    while waiting:
        number = waiting.pop()
        found.append(number)
        waiting.extend(children[number])
    return found[::-1]


def edges_of_bags(graph, bags):
    """For each bag the edges that lie in it, and in none before it."""
    lying = bags_with(graph, bags)
    edges = [[] for _ in bags]
    for u, v in graph.edges:
        edges[first_bag(lying, u, v)].append((u, v))
    return edges
