"""Full states: the marks of the free variables of a formula, and its state.

Here a full state is a pair of a tuple of marks, as marks.py has them, and
the number of a state in an engine of the formula.
"""

from smallwidth.engine import NO, OPEN, YES
from smallwidth.marks import continued, first_mark, fitting, is_here, mark_of, told_mark


def first_full(engine):
    """The full state of the graph without vertices."""
    marks = tuple([first_mark(sort) for sort, _ in engine.free])
    return (marks, engine.first(engine.top))


def full_after(engine, full, step, chosen):
    """The full state behind a step, or None if it cannot be so chosen."""
    marks, state = full
    found = []
    for (sort, _), mark, one in zip(engine.free, marks, chosen):
        found.append(continued(sort, mark, step, one))
    if None in found:
        return None
    touches = engine.touches_of(engine.free, [touch for _, touch in found])
    behind = engine.after(engine.top, state, step, touches)
    return (tuple([mark for mark, _ in found]), behind)


def full_joined(engine, first, second):
    """The full state of a join, or None if the values do not fit."""
    for marks, whole in fitting_marks(engine, first[0]):
        if marks == second[0]:
            return (whole, engine.joined(engine.top, first[1], second[1]))
    return None


def fitting_marks(engine, marks):
    """The marks in another graph that fit, each with those of both."""
    found = [((), ())]
    for (sort, _), mark in zip(engine.free, marks):
        fits = fitting(sort, mark)
        found = [((*m, fit), (*w, whole)) for m, w in found for fit, whole in fits]
    return found


def full_truth(engine, full):
    """Whether the formula holds, or None if a free value is nowhere."""
    marks, state = full
    for (sort, _), mark in zip(engine.free, marks):
        if not is_here(sort, mark):
            return None
    return engine.holds(engine.top, state)


def told_full(engine, full):
    """A full state as the document has it."""
    marks, state = full
    told = [told_mark(sort, mark) for (sort, _), mark in zip(engine.free, marks)]
    return (tuple(told), told_state(engine, engine.top, state, {}))


def told_state(engine, at, state, known):
    """A state of a part as the document has it.

    `known` is a dict of those that were told before: states have most of
    what is in them in common.
    """
    if state in (YES, NO, OPEN):
        return engine.contents[state]
    key = (at, state)
    if key not in known:
        part = engine.parts[at]
        if part.bound_sort is None:
            inner = engine.states_in(part, state)
            told = [told_state(engine, n, one, known) for n, one in zip(part.inner, inner)]
            known[key] = told[0] if part.word == "not" else ("pair", *told)
        else:
            known[key] = ("many", told_pairs(engine, part, state, known))
    return known[key]


def told_pairs(engine, part, state, known):
    """The pairs of a "many" as the document has them."""
    return tuple(sorted([
        (told_mark(part.bound_sort, mark), told_state(engine, part.inner[0], one, known))
        for mark, one in engine.pairs_in(state)
    ]))


def full_of(engine, told):
    """The full state that is so in the document."""
    marks, state = told
    found = [mark_of(sort, mark) for (sort, _), mark in zip(engine.free, marks)]
    return (tuple(found), state_of_told(engine, engine.top, state))


def state_of_told(engine, at, told):
    """The number of the state of a part that is so in the document."""
    if told in engine.contents[:OPEN + 1]:
        return engine.contents.index(told)
    part = engine.parts[at]
    if part.word == "not":
        return state_of_told(engine, part.inner[0], told)
    if part.bound_sort is None:
        inner = [state_of_told(engine, n, one) for n, one in zip(part.inner, told[1:])]
        return engine.state_of(("pair", *inner))
    pairs = [
        (mark_of(part.bound_sort, mark), state_of_told(engine, part.inner[0], one))
        for mark, one in told[1]
    ]
    return engine.state_of(("many", tuple(sorted(pairs))))
