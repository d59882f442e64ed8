"""Known formulas."""

# What these formulas bind has the numbers 8 and 9, and the sets of
# `colourable` and `connected` the numbers from 0 on, as the document says.


def independent(variable):
    """No two vertices in a set are neighbours."""
    x, y = ("v", 8), ("v", 9)
    both = ("and", ("in", x, variable), ("in", y, variable))
    return ("all", x, ("all", y, ("or", ("not", both), ("not", ("near", x, y)))))


def dominating(variable):
    """Every vertex is in a set, or has a neighbour in it."""
    x, y = ("v", 8), ("v", 9)
    beside = ("some", y, ("and", ("near", x, y), ("in", y, variable)))
    return ("all", x, ("or", ("in", x, variable), beside))


def colourable(count):
    """Every vertex is in one of so many independent sets."""
    x = ("v", 8)
    sets = [("V", number) for number in range(count)]
    covered = ("all", x, from_left("or", [("in", x, variable) for variable in sets]))
    formula = from_left("and", [*[independent(variable) for variable in sets], covered])
    for variable in reversed(sets):
        formula = ("some", variable, formula)
    return formula


def from_left(word, formulas):
    """The "and" or "or" of several formulas, from the left to the right."""
    # There are none only for `colourable(0)`: no set contains a vertex.
    whole = formulas[0] if formulas else ("not", ("true",))
    for formula in formulas[1:]:
        whole = (word, whole, formula)
    return whole


def closed(variable):
    """A neighbour of a vertex in a set is in the set."""
    x, y = ("v", 8), ("v", 9)
    leads = ("and", ("in", x, variable), ("near", x, y))
    return ("all", x, ("all", y, ("or", ("not", leads), ("in", y, variable))))


def connected():
    """Every set that is closed and not empty contains all vertices."""
    x, variable = ("v", 8), ("V", 0)
    inside = ("in", x, variable)
    trivial = ("or", ("all", x, ("not", inside)), ("all", x, inside))
    return ("all", variable, ("or", ("not", closed(variable)), trivial))


def matching(variable):
    """No two different edges in a set have a common end."""
    e, f, x = ("e", 8), ("e", 9), ("v", 8)
    both = ("and", ("in", e, variable), ("in", f, variable))
    common = ("and", ("ends", e, x), ("ends", f, x))
    apart = ("or", ("same", e, f), ("all", x, ("not", common)))
    return ("all", e, ("all", f, ("or", ("not", both), apart)))
