"""The text of a formula, and the formula of a text."""

from smallwidth.errors import BadFormula
from smallwidth.formula import ATOMS, MOST_DEPTH, SORTS, is_atom

# What stands between the two variables of an atom, and between two formulas.
BETWEEN = {"same": " = ", "near": " ~ ", "ends": " : ", "in": " in ", "within": " <= "}
WORDS = {"and": " & ", "or": " | "}


def formula_text(formula):
    """The text of a formula."""
    word = formula[0]
    if word == "true":
        return "true"
    if word in ATOMS:
        return f"{variable_text(formula[1])}{BETWEEN[word]}{variable_text(formula[2])}"
    if word == "not":
        return f"!({formula_text(formula[1])})"
    if word in WORDS:
        return f"({formula_text(formula[1])}{WORDS[word]}{formula_text(formula[2])})"
    return f"{word} {variable_text(formula[1])} ({formula_text(formula[2])})"


def variable_text(variable):
    """The text of a variable."""
    sort, number = variable
    return f"{sort}{number}"


def formula_of(text):
    """The formula whose text it is."""
    formula, end = formula_at(text, 0, MOST_DEPTH)
    if end != len(text):
        raise BadFormula("there is something behind the formula")
    return formula


def formula_at(text, start, most):
    """The formula nested at most so deep that begins here, and its end.

    No text of a formula begins with another one. So there is one at most.
    """
    if most > 0 and text.startswith("!(", start):
        return negation_at(text, start, most)
    if most > 0 and text.startswith("(", start):
        return pair_at(text, start, most)
    for word in ("some", "all"):
        if most > 0 and text.startswith(f"{word} ", start):
            return bound_at(text, start, most, word)
    return atom_at(text, start)


def negation_at(text, start, most):
    """The "not" that begins here, and its end."""
    inner, end = formula_at(text, start + 2, most - 1)
    return ("not", inner), behind(text, end, ")")


def pair_at(text, start, most):
    """The "and" or "or" that begins here, and its end."""
    first, end = formula_at(text, start + 1, most - 1)
    word = word_at(text, end, dict(WORDS))
    second, end = formula_at(text, end + len(WORDS[word]), most - 1)
    return (word, first, second), behind(text, end, ")")


def bound_at(text, start, most, word):
    """The "some" or "all" that begins here, and its end."""
    variable, end = variable_at(text, start + len(word) + 1)
    inner, end = formula_at(text, behind(text, end, " ("), most - 1)
    return (word, variable, inner), behind(text, end, ")")


def atom_at(text, start):
    """The atom that begins here, and its end."""
    if text.startswith("true", start):
        return ("true",), start + 4
    first, end = variable_at(text, start)
    word = word_at(text, end, dict(BETWEEN))
    second, end = variable_at(text, end + len(BETWEEN[word]))
    atom = (word, first, second)
    if not is_atom(atom):
        raise BadFormula("the variables of an atom are of the wrong sorts")
    return atom, end


def variable_at(text, start):
    """The variable that begins here, and its end."""
    end = start + 2
    name = text[start:end]
    if len(name) < 2 or name[0] not in SORTS or name[1] not in "0123456789":
        raise BadFormula("a variable is missing")
    return (name[0], int(name[1])), end


def word_at(text, start, signs):
    """The word whose sign stands here, from a dict of signs."""
    for word in signs:
        if text.startswith(signs[word], start):
            return word
    raise BadFormula("a sign is missing")


def behind(text, start, sign):
    """The end of a sign that stands here."""
    if not text.startswith(sign, start):
        raise BadFormula("a parenthesis is missing")
    return start + len(sign)
