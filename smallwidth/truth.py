"""Whether a formula holds in a small graph, by the definition."""

from itertools import combinations

from smallwidth.errors import BadValues, TooLarge
from smallwidth.formula import ATOMS, free
from smallwidth.graph import check_at_most, is_ascending, is_edge, is_vertex
from smallwidth.masks import mask_of, neighbours
from smallwidth.parts import numbered_parts

MOST_IN_TRUTH = 6
MOST_EDGES = 10


def holds(graph, formula, values):
    """Whether a formula holds, with these values of its free variables."""
    for variable in free(formula):
        if variable not in values:
            raise BadValues("a free variable has no value")
    for variable in values:
        if not is_value(graph, variable[0], values[variable]):
            raise BadValues("a value is not of the sort of its variable")
    check_size(graph)
    return Model(graph, formula).holds_for(values)


def is_value(graph, sort, value):
    """Whether a value is one of this sort in a graph."""
    if sort == "v":
        return is_vertex(value, graph.size)
    if sort == "e":
        return is_edge(value, graph.size) and value in graph.edges
    if sort == "V":
        return is_ascending(value, graph.size)
    return is_set_of_edges(graph, value)


def is_set_of_edges(graph, value):
    """Whether a value is an ascending tuple of edges of a graph."""
    if not isinstance(value, tuple):
        return False
    last = ()
    for edge in value:
        if not is_value(graph, "e", edge) or edge <= last:
            return False
        last = edge
    return True


def check_size(graph):
    """Raises an error if a graph is too large to go through all values."""
    check_at_most(graph, MOST_IN_TRUTH)
    if len(graph.edges) > MOST_EDGES:
        raise TooLarge("the graph has too many edges")


def values_of(graph, sort):
    """All values of a sort, the sets in ascending order of their sizes."""
    check_size(graph)
    members = list(range(graph.size)) if sort in ("v", "V") else list(graph.edges)
    if sort in ("v", "e"):
        return members
    found = []
    for size in range(len(members) + 1):
        found.extend(list(combinations(members, size)))
    return found


def satisfying(graph, formula, variable):
    """The values of the only free variable for which a formula holds."""
    if any([other != variable for other in free(formula)]):
        raise BadValues("another variable is free")
    values = values_of(graph, variable[0])
    model = Model(graph, formula)
    return [value for value in values if model.holds_for({variable: value})]


class Model:
    """Finds out whether one formula holds in one graph, for any values.

    A value is a number here: a vertex, or an edge's place among the edges.
    A set is the sum of the powers of two for its members.
    """

    def __init__(self, graph, formula):
        self.edges = graph.edges
        self.around = neighbours(graph)
        self.ends = [mask_of(edge) for edge in graph.edges]
        self.many = {
            "v": graph.size,
            "e": len(graph.edges),
            "V": 1 << graph.size,
            "E": 1 << len(graph.edges),
        }
        self.parts = numbered_parts(formula)
        # Whether a "some" or "all" holds, by its number and the values of
        # its free variables: it is asked for the same ones again and again.
        self.known = {}

    def holds_for(self, values):
        """Whether the formula holds, with values as the document has them."""
        numbers = {variable: self.number(variable[0], values[variable]) for variable in values}
        return self.holds(len(self.parts) - 1, numbers)

    def number(self, sort, value):
        """The number of a value."""
        if sort == "e":
            return self.edges.index(value)
        if sort == "E":
            return mask_of([self.edges.index(edge) for edge in value])
        return mask_of(value) if sort == "V" else value

    def holds(self, at, values):
        """Whether a part holds."""
        part = self.parts[at]
        if part.word in ATOMS:
            return self.atom_holds(part.word, [values[variable] for variable in part.variables])
        if part.word == "not":
            return not self.holds(part.inner[0], values)
        if part.word == "and":
            return self.holds(part.inner[0], values) and self.holds(part.inner[1], values)
        if part.word == "or":
            return self.holds(part.inner[0], values) or self.holds(part.inner[1], values)
        key = (at, *[values[variable] for variable in part.free])
        if key not in self.known:
            self.known[key] = self.bound_holds(part, values)
        return self.known[key]

    def bound_holds(self, part, values):
        """Whether a "some" or "all" holds: this goes through all values."""
        variable = part.variables[0]
        wanted = part.word == "some"
        inner = {other: values[other] for other in values}
        for value in range(self.many[variable[0]]):
            inner[variable] = value
            if self.holds(part.inner[0], inner) == wanted:
                return wanted
        return not wanted

    def atom_holds(self, word, told):
        """Whether an atom holds, for the list of its values."""
        if word == "true":
            return True
        first, second = told
        if word == "same":
            return first == second
        if word == "near":
            return self.around[first] >> second & 1 == 1
        if word == "ends":
            return self.ends[first] >> second & 1 == 1
        if word == "in":
            return second >> first & 1 == 1
        return first | second == second
