"""What can still matter of a graph for a formula, step by step."""

from smallwidth.engine import Engine
from smallwidth.errors import BadValues
from smallwidth.formula import free
from smallwidth.frames import graphs_taken
from smallwidth.fullstates import (
    first_full,
    full_after,
    full_joined,
    full_of,
    full_truth,
    told_full,
)
from smallwidth.terms import check_term


def first_state(formula):
    """The full state of the graph without vertices."""
    engine = Engine(formula)
    return told_full(engine, first_full(engine))


def with_vertex(formula, full, label, chosen):
    """The full state behind a new vertex, or None if it cannot be chosen."""
    return behind(formula, full, ("new", label), chosen)


def with_edge(formula, full, first, second, chosen):
    """The full state behind a new edge, or None if it cannot be chosen."""
    return behind(formula, full, ("edge", first, second), chosen)


def forgotten(formula, full, label):
    """The full state behind a step that forgets a label."""
    return behind(formula, full, ("forget", label), [False for _ in full[0]])


def behind(formula, full, step, chosen):
    """The full state behind a step, or None if it cannot be so chosen."""
    engine = Engine(formula)
    found = full_after(engine, full_of(engine, full), step, chosen)
    return None if found is None else told_full(engine, found)


def joined(formula, first, second):
    """The full state of a join, or None if the values do not fit."""
    engine = Engine(formula)
    found = full_joined(engine, full_of(engine, first), full_of(engine, second))
    return None if found is None else told_full(engine, found)


def truth(formula, full):
    """Whether the formula holds, or None if a free value is nowhere."""
    engine = Engine(formula)
    return full_truth(engine, full_of(engine, full))


def term_state(formula, term, k):
    """The full state of a sentence for the graph of a term."""
    check_term(term, k)
    if free(formula):
        raise BadValues("the formula has a free variable")
    engine = Engine(formula)
    stack = []
    for step in term:
        start = len(stack) - graphs_taken(step)
        taken = stack[start:]
        del stack[start:]
        stack.append(full_behind(engine, taken, step))
    return told_full(engine, stack[0])


def full_behind(engine, taken, step):
    """The full state of a sentence behind a step, from those it takes."""
    if step[0] == "empty":
        return first_full(engine)
    if step[0] == "join":
        return full_joined(engine, *taken)
    return full_after(engine, taken[0], step, ())
