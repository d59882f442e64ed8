"""Terms: graphs that are put together step by step."""

from smallwidth.errors import BadTerm, TooLarge
from smallwidth.frames import frame_after, graphs_taken, is_step
from smallwidth.graph import MOST_VERTICES, Graph, edge_between, is_vertex

MOST_LABEL = 12
MOST_STEPS = 20000


def check_term(term, k):
    """The frame of a term: the labels in use, and the pairs with an edge."""
    if not isinstance(term, tuple) or len(term) > MOST_STEPS:
        raise BadTerm(-1)
    if not is_vertex(k, MOST_LABEL + 1):
        raise BadTerm(-1)
    _, frames = walk(term, k)
    return frames[-1]


def walk(term, k):
    """What `operands` tells of each step, and the frame of its graph."""
    # The limits of k and of the number of steps are for `check_term`: the
    # document does not say that the other functions raise an error there.
    taken = []
    frames = []
    stack = []
    for index, step in enumerate(term):
        if not is_step(step, k) or graphs_taken(step) > len(stack):
            raise BadTerm(index)
        start = len(stack) - graphs_taken(step)
        indexes = tuple(stack[start:])
        frame = frame_after(step, [frames[at] for at in indexes])
        if frame is None:
            raise BadTerm(index)
        del stack[start:]
        stack.append(index)
        taken.append(indexes)
        frames.append(frame)
    if len(stack) != 1:
        raise BadTerm(len(term))
    return taken, frames


def operands(term, k):
    """For each step, the indexes of those whose graphs it takes."""
    taken, _ = walk(term, k)
    return taken


def ended(term, k):
    """The term, and behind it steps that forget all labels in use."""
    _, frames = walk(term, k)
    labels, _ = frames[-1]
    return (*term, *[("forget", label) for label in labels])


def joined(first, second):
    """The term that joins two terms."""
    return (*first, *second, ("join",))


def most_labels(term, k):
    """How many labels are at most in use at once."""
    _, frames = walk(term, k)
    return max([len(labels) for labels, _ in frames])


def made(term, k):
    """The graph of a term, and the vertex that bears each label."""
    many, bearers = vertices_with_labels(term, k)
    if many > MOST_VERTICES:
        raise TooLarge("the graph has more than 60 vertices")
    edges = []
    for step, bearing in zip(term, bearers):
        if step[0] == "edge":
            edges.append(edge_between(bearing[step[1]], bearing[step[2]]))
    sources = tuple([bearers[-1].get(label) for label in range(k + 1)])
    return Graph(many, edges), sources


def vertices_with_labels(term, k):
    """How many vertices there are, and for each step who bears the labels.

    The latter is a list of dicts, from the labels that are in use in the
    graph of the step to the vertices, with the numbers that `made` gives.
    """
    # A vertex is first named by the number of its step "new" among all
    # these. The steps of the lower graph of a join stand before those of
    # the upper one. So, without the vertices of the upper one that become
    # some of the lower one, the order of the names is that of the numbers.
    taken, _ = walk(term, k)
    named = []
    kept = []
    for step, indexes in zip(term, taken):
        bearing = dict(named[indexes[0]]) if indexes else {}
        if step[0] == "new":
            bearing[step[1]] = len(kept)
            kept.append(len(kept))
        if step[0] == "forget":
            del bearing[step[1]]
        if step[0] == "join":
            for label, name in named[indexes[1]].items():
                kept[name] = bearing[label]
        named.append(bearing)
    many, numbers = numbers_of(kept)
    return many, [{label: numbers[bearing[label]] for label in bearing} for bearing in named]


def numbers_of(kept):
    """How many vertices there are, and the numbers of those with each name.

    `kept` tells for each name the name, not a greater one, of the vertex
    that it became in a join.
    """
    numbers = []
    many = 0
    for name, other in enumerate(kept):
        if other == name:
            numbers.append(many)
            many += 1
        else:
            numbers.append(numbers[other])
    return many, numbers
