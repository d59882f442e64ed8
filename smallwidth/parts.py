"""The formulas in a formula, each under a number."""

from smallwidth.formula import ATOMS, parts_of


class Part:
    """One of the formulas in a formula, or the whole one.

    `variables` are those of an atom, or the one that "some" or "all" binds,
    and `bound_sort` is the sort of the latter, or None. `inner` are the
    numbers of the formulas directly in it, and `free` are its free variables
    in ascending order.
    """

    def __init__(self, word, variables, inner, free):
        self.word = word
        self.variables = variables
        self.bound_sort = variables[0][0] if word in ("some", "all") else None
        self.inner = inner
        self.free = free


def numbered_parts(formula):
    """All formulas in a formula, each behind those in it, itself last."""
    found = []
    add_part(formula, found)
    return found


def add_part(formula, found):
    """Adds the formulas in a formula, and then itself; returns its number."""
    word = formula[0]
    inner = tuple([add_part(part, found) for part in parts_of(formula)])
    occurring = []
    for number in inner:
        occurring.extend(found[number].free)
    variables = ()
    if word in ATOMS:
        variables = formula[1:]
        occurring.extend(variables)
    if word in ("some", "all"):
        variables = (formula[1],)
        occurring = [variable for variable in occurring if variable != formula[1]]
    found.append(Part(word, variables, inner, tuple(sorted(set(occurring)))))
    return len(found) - 1
