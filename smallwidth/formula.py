"""Formulas about vertices, edges, and sets of them."""

from smallwidth.graph import is_vertex

SORTS = ("v", "e", "V", "E")
MOST_NUMBER = 9
MOST_DEPTH = 12

# For each word of an atom, the sorts of the variables that may follow it.
ATOMS = {
    "true": ((),),
    "same": (("v", "v"), ("e", "e")),
    "near": (("v", "v"),),
    "ends": (("e", "v"),),
    "in": (("v", "V"), ("e", "E")),
    "within": (("V", "V"), ("E", "E")),
}


def is_variable(value):
    """Whether a value is a variable."""
    if not isinstance(value, tuple) or len(value) != 2:
        return False
    sort, number = value
    return isinstance(sort, str) and sort in SORTS and is_vertex(number, MOST_NUMBER + 1)


def is_formula(value):
    """Whether a value is a formula that is nested at most 12 deep."""
    return is_nested(value, MOST_DEPTH)


def is_nested(value, most):
    """Whether a value is a formula that is nested at most so deep."""
    if not isinstance(value, tuple) or len(value) == 0 or not isinstance(value[0], str):
        return False
    word = value[0]
    if word in ATOMS:
        return is_atom(value)
    # This comes before a look inside: a value may be nested far deeper.
    if most == 0:
        return False
    if word == "not":
        return len(value) == 2 and is_nested(value[1], most - 1)
    if len(value) != 3:
        return False
    if word in ("and", "or"):
        return is_nested(value[1], most - 1) and is_nested(value[2], most - 1)
    if word in ("some", "all"):
        return is_variable(value[1]) and is_nested(value[2], most - 1)
    return False


def is_atom(value):
    """Whether a tuple with the word of an atom is one."""
    variables = value[1:]
    if not all([is_variable(variable) for variable in variables]):
        return False
    return tuple([sort for sort, _ in variables]) in ATOMS[value[0]]


def parts_of(formula):
    """The list of the formulas in "not", "and", "or", "some" or "all"."""
    word = formula[0]
    if word in ("some", "all"):
        return [formula[2]]
    return list(formula[1:]) if word in ("not", "and", "or") else []


def depth(formula):
    """How deep a formula is nested."""
    return 1 + max([depth(part) for part in parts_of(formula)], default=-1)


def rank(formula):
    """How deep "some" and "all" are nested in a formula."""
    own = 1 if formula[0] in ("some", "all") else 0
    return own + max([rank(part) for part in parts_of(formula)], default=0)


def free(formula):
    """The variables that occur free in a formula, in ascending order."""
    return sorted(set(occurring_free(formula)))


def occurring_free(formula):
    """The variables that occur free in a formula, as often as they do."""
    if formula[0] in ATOMS:
        return list(formula[1:])
    found = []
    for part in parts_of(formula):
        found.extend(occurring_free(part))
    if formula[0] in ("some", "all"):
        return [variable for variable in found if variable != formula[1]]
    return found
