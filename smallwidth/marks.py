"""Marks of values, and how they and the values continue in a step.

A mark is an integer here, other than in the document only for a set of
vertices: there it is the sum of the powers of two for the labels.

A step *touches* a value in one of these ways, which are all that an open
atom has to be told of it: 1 if the new vertex or edge becomes the value, or
a member of it; 1 or 2 if the value is the vertex with the first or second
label of a new edge; 1 if it is the vertex whose label is forgotten;
otherwise 0.
"""

from smallwidth.masks import mask_of, members

INNER = -2
NOWHERE = -1
ABSENT = 0
PRESENT = 1


def first_mark(sort):
    """The mark of the only value in the graph without vertices."""
    return NOWHERE if sort == "v" else ABSENT


def is_here(sort, mark):
    """Whether a value with this mark is not nowhere."""
    if sort == "v":
        return mark != NOWHERE
    return sort != "e" or mark == PRESENT


def told_mark(sort, mark):
    """A mark as the document has it."""
    return tuple(members(mark)) if sort == "V" else mark


def mark_of(sort, told):
    """The mark that is so in the document."""
    return mask_of(told) if sort == "V" else told


def continued(sort, mark, step, chosen):
    """The mark of a value behind a step, and how the step touches it.

    `chosen` tells whether the new vertex or edge becomes the value, or a
    member of it. It is None if it cannot.
    """
    if sort == "v":
        return continued_vertex(mark, step, chosen)
    if sort == "V":
        return continued_vertices(mark, step, chosen)
    if not chosen:
        return (mark, 0)
    if step[0] != "edge" or mark == PRESENT:
        return None
    return (PRESENT if sort == "e" else mark, 1)


def continued_vertex(mark, step, chosen):
    """What `continued` tells of a vertex."""
    if chosen:
        return (step[1], 1) if step[0] == "new" and mark == NOWHERE else None
    if step[0] == "edge" and mark in step[1:]:
        return (mark, step.index(mark))
    if step[0] == "forget" and mark == step[1]:
        return (INNER, 1)
    return (mark, 0)


def continued_vertices(mark, step, chosen):
    """What `continued` tells of a set of vertices."""
    if chosen:
        return (mark | 1 << step[1], 1) if step[0] == "new" else None
    if step[0] == "forget":
        return (mark & ~(1 << step[1]), 0)
    return (mark, 0)


def continuations(sort, mark, step):
    """All that can become of a value, as `continued` tells it."""
    both = [continued(sort, mark, step, chosen) for chosen in (False, True)]
    return [one for one in both if one is not None]


def fitting(sort, mark):
    """The marks in another graph that fit, each with the mark of both."""
    if sort == "v" and mark == INNER:
        return [(NOWHERE, INNER)]
    if sort == "v" and mark == NOWHERE:
        return [(NOWHERE, NOWHERE), (INNER, INNER)]
    if sort == "e" and mark == PRESENT:
        return [(ABSENT, PRESENT)]
    if sort == "e":
        return [(ABSENT, ABSENT), (PRESENT, PRESENT)]
    return [(mark, mark)]
