"""Brambles: sets of vertices that touch, and prove a width."""

from itertools import combinations

from smallwidth.errors import BadBramble, NoHaven
from smallwidth.graph import check_at_most, is_ascending
from smallwidth.masks import mask_of, neighbours
from smallwidth.width import MOST_IN_WIDTH, components, width

MOST_IN_BRAMBLE = 9


def is_bramble(graph, sets):
    """Whether a value is a bramble of the graph."""
    if not isinstance(sets, tuple):
        return False
    for one in sets:
        if not is_ascending(one, graph.size) or not hangs_together(graph, one):
            return False
    for place in range(1, len(sets)):
        if sets[place - 1] >= sets[place]:
            return False
    return all_touch(graph, sets)


def hangs_together(graph, one):
    """Whether some vertices are the only component without all others."""
    others = [vertex for vertex in range(graph.size) if vertex not in one]
    return components(graph, others) == [one]


def all_touch(graph, sets):
    """Whether each two of some sets of vertices touch."""
    near = neighbours(graph)
    before = []
    for one in sets:
        reach = with_neighbours(near, one)
        if not all([mask & reach for mask in before]):
            return False
        before.append(mask_of(one))
    return True


def with_neighbours(near, vertices):
    """The set of some vertices and of all their neighbours."""
    found = mask_of(vertices)
    for vertex in vertices:
        found |= near[vertex]
    return found


def check_bramble(graph, sets):
    """Raises BadBramble if a value is not a bramble of the graph."""
    if not is_bramble(graph, sets):
        raise BadBramble("this is no bramble of the graph")


def cover(graph, sets):
    """The first tuple that hits a bramble, the shorter ones first."""
    check_at_most(graph, MOST_IN_WIDTH)
    check_bramble(graph, sets)
    masks = [mask_of(one) for one in sets]
    for length in range(graph.size):
        for chosen in combinations(range(graph.size), length):
            if meets_all(mask_of(chosen), masks):
                return chosen
    return tuple(range(graph.size))


def meets_all(mask, masks):
    """Whether a set has a vertex of each of some sets."""
    return all([mask & other for other in masks])


def strength(graph, sets):
    """The length of the cover of a bramble."""
    return len(cover(graph, sets))


def meeting_bag(bags, sets):
    """The number of the first bag that hits all sets, or None."""
    masks = [mask_of(one) for one in sets]
    for number, bag in enumerate(bags):
        if meets_all(mask_of(bag), masks):
            return number
    return None


def bramble(graph):
    """A bramble whose strength is the width of the graph plus 1."""
    check_at_most(graph, MOST_IN_BRAMBLE)
    widest = width(graph)
    if widest < 0:
        return ()
    chosen = first_choice(neighbours(graph), choices(graph, widest))
    return tuple(sorted(set(chosen)))


def choices(graph, length):
    """For each tuple of so many vertices, the components without them."""
    return [components(graph, gone) for gone in combinations(range(graph.size), length)]


def first_choice(near, options):
    """The first choice of one set from each list such that all touch."""
    chosen = ()
    rest = options
    waiting = []
    while rest:
        # What is to be tried first comes last. A set that leaves nothing to
        # choose from some later list need not be tried at all.
        for one in reversed(rest[0]):
            left = touching(near, one, rest[1:])
            if all(left):
                waiting.append(((*chosen, one), left))
        chosen, rest = waiting.pop()
    return chosen


def touching(near, one, options):
    """The lists of sets without those that do not touch a set."""
    reach = with_neighbours(near, one)
    return [[other for other in some if mask_of(other) & reach] for some in options]


def haven(graph, sets, standing):
    """The component in which all sets lie that no standing cop meets."""
    check_bramble(graph, sets)
    for one in sets:
        if not any([vertex in standing for vertex in one]):
            return component_with(graph, standing, one[0])
    raise NoHaven("the vertices hit the bramble")


def component_with(graph, gone, vertex):
    """The component of the graph without some vertices that has a vertex."""
    found = [one for one in components(graph, gone) if vertex in one]
    return found[0]
