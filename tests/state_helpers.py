"""Truth and states by the definition ([4.2], [5.2] to [5.9]), and formulas."""

from itertools import chain, combinations, product

NOWHERE = None
YES = ("yes",)
NO = ("no",)
OPEN = ("open",)
SORTS = ("v", "e", "V", "E")


class World:
    """Vertices and edges, both in ascending order, and a dict of sources."""

    def __init__(self, many, edges, labels=()):
        self.vertices = list(range(many))
        self.edges = sorted(tuple(sorted(edge)) for edge in edges)
        self.label_of = {vertex: label for label, vertex in dict(labels).items()}

    def values(self, sort, nowhere=False):
        """All values of a sort, the sets ascending by size and then by tuple."""
        things = self.vertices if sort in "vV" else self.edges
        if sort in "ve":
            return things + [NOWHERE] * nowhere
        subsets = [combinations(things, size) for size in range(len(things) + 1)]
        return list(chain.from_iterable(subsets))

    def mark(self, sort, value):
        if sort == "v":
            return -1 if value is NOWHERE else self.label_of.get(value, -2)
        if sort == "e":
            return 0 if value is NOWHERE else 1
        if sort == "E":
            return 0
        return tuple(sorted(self.label_of[v] for v in value if v in self.label_of))

    def is_inner(self, value):
        return value is not NOWHERE and value not in self.label_of


def world_of(graph):
    return World(graph.size, graph.edges)


def world_of_marked(marked):
    return World(marked.many, marked.edges, marked.labels)


def true_in(world, formula, values):
    """Whether a formula holds, by looking at all values."""
    word, *rest = formula
    if word == "true":
        return True
    if word == "not":
        return not true_in(world, rest[0], values)
    if word == "and":
        return true_in(world, rest[0], values) and true_in(world, rest[1], values)
    if word == "or":
        return true_in(world, rest[0], values) or true_in(world, rest[1], values)
    if word in ("some", "all"):
        told = (
            true_in(world, rest[1], {**values, rest[0]: value})
            for value in world.values(rest[0][0])
        )
        return any(told) if word == "some" else all(told)
    first, second = (values[variable] for variable in rest)
    if word == "same":
        return first == second
    if word == "near":
        return tuple(sorted((first, second))) in world.edges
    if word == "ends":
        return second in first
    if word == "in":
        return first in second
    return set(first) <= set(second)


def atom_state(world, formula, values):
    """[5.5], line by line."""
    word, *rest = formula
    if word == "true":
        return YES
    first, second = (values[variable] for variable in rest)
    here = [value is not NOWHERE for value in (first, second)]
    if word == "same":
        if all(here) and first == second:
            return YES
        return NO if any(here) else OPEN
    if word == "near":
        if all(here) and tuple(sorted((first, second))) in world.edges:
            return YES
        if all(here) and first == second or world.is_inner(first) or world.is_inner(second):
            return NO
        return OPEN
    if word == "ends":
        if here[0]:
            return YES if here[1] and second in first else NO
        return NO if world.is_inner(second) else OPEN
    if word == "in":
        if here[0]:
            return YES if first in second else NO
        return OPEN
    return NO if set(first) - set(second) else OPEN


def state_in(world, formula, values):
    """The state of a formula, by the definition."""
    word, *rest = formula
    if word in ("and", "or"):
        states = [state_in(world, part, values) for part in rest]
        settling, other = (NO, YES) if word == "and" else (YES, NO)
        if settling in states:
            return settling
        return other if states == [other, other] else ("pair", *states)
    if word == "not":
        state = state_in(world, rest[0], values)
        return {YES: NO, NO: YES}.get(state, state)
    if word not in ("some", "all"):
        return atom_state(world, formula, values)
    variable, part = rest
    settling, other = (YES, NO) if word == "some" else (NO, YES)
    pairs = set()
    for value in world.values(variable[0], nowhere=True):
        state = state_in(world, part, {**values, variable: value})
        if state == settling and value is not NOWHERE:
            return settling
        if state != other:
            pairs.add((world.mark(variable[0], value), state))
    return ("many", tuple(sorted(pairs))) if pairs else other


def full_state(world, formula, variables, values):
    marks = tuple(world.mark(variable[0], values[variable]) for variable in variables)
    return marks, state_in(world, formula, values)


def every_choice(world, variables, nowhere=False):
    """All dicts of values for some variables."""
    lists = [world.values(sort, nowhere) for sort, _ in variables]
    return [dict(zip(variables, values)) for values in product(*lists)]


def free_in(formula):
    """The free variables, in ascending order."""
    word, *rest = formula
    if word in ("some", "all"):
        return [variable for variable in free_in(rest[1]) if variable != rest[0]]
    if word in ("not", "and", "or"):
        return sorted(set(chain.from_iterable(free_in(part) for part in rest)))
    return sorted(set(rest))


ATOMS = [
    ("true", ""), ("same", "vv"), ("same", "ee"), ("near", "vv"), ("ends", "ev"),
    ("in", "vV"), ("in", "eE"), ("within", "VV"), ("within", "EE"),
]


def some_atom(source, numbers):
    word, sorts = source.choice(ATOMS)
    return (word, *((sort, source.choice(numbers)) for sort in sorts))


def some_formula(source, deep, numbers=(0, 1)):
    """A formula that is nested at most so deep, chosen at random."""
    word = source.choice(["atom", "not", "and", "or", "some", "all", "some", "all"])
    if deep == 0 or word == "atom":
        return some_atom(source, numbers)
    if word == "not":
        return ("not", some_formula(source, deep - 1, numbers))
    if word in ("and", "or"):
        parts = [some_formula(source, deep - 1, numbers) for _ in range(2)]
        return (word, *parts)
    variable = (source.choice(SORTS), source.choice(numbers))
    return (word, variable, some_formula(source, deep - 1, numbers))


def closed_up(source, formula, most=9):
    """A sentence: the free variables, if there are at most so many, bound."""
    for variable in free_in(formula)[:most]:
        formula = (source.choice(["some", "all"]), variable, formula)
    return formula
