"""Marked graphs by the definition ([2.1] to [2.4]), and many terms."""

from itertools import combinations, product

EMPTY = ("empty",)
JOIN = ("join",)
EXAMPLE = (
    EMPTY, ("new", 0), ("new", 1), ("edge", 0, 1), ("forget", 0), ("new", 0), ("edge", 0, 1),
)


class Strange:
    """A value that must not be compared with anything."""

    def __eq__(self, other):
        raise ZeroDivisionError

    __hash__ = None


STRANGE = [
    None, True, False, 0, 1, -1, 1.5, "", "empty", "new", b"new", (), [], {}, set(),
    [EMPTY], {EMPTY: True}, Strange(), Strange, len, 10 ** 6000, frozenset(), "join",
]


class Marked:
    """A marked graph: the vertices 0 to `many` - 1, edges, and labels."""

    def __init__(self, many, edges, labels):
        self.many = many
        self.edges = frozenset(edges)
        self.labels = dict(labels)

    def frame(self):
        """The frame: the labels in use, and the pairs with an edge."""
        pairs = []
        for i, j in combinations(sorted(self.labels), 2):
            if frozenset((self.labels[i], self.labels[j])) in self.edges:
                pairs.append((i, j))
        return tuple(sorted(self.labels)), tuple(pairs)


def every_step(k):
    """All steps for the labels 0 to k."""
    labels = range(k + 1)
    steps = [EMPTY, JOIN]
    steps += [("new", i) for i in labels] + [("forget", i) for i in labels]
    return steps + [("edge", i, j) for i, j in combinations(labels, 2)]


def join_of(lower, upper):
    """The join of two marked graphs, or None if there is none."""
    if set(lower.labels) != set(upper.labels):
        return None
    if set(lower.frame()[1]) & set(upper.frame()[1]):
        return None
    number = {upper.labels[i]: lower.labels[i] for i in upper.labels}
    many = lower.many
    for vertex in range(upper.many):
        if vertex not in number:
            number[vertex] = many
            many += 1
    edges = [frozenset(number[v] for v in edge) for edge in upper.edges]
    return Marked(many, list(lower.edges) + edges, lower.labels)


def changed(graph, step):
    """A marked graph behind a step "new", "edge" or "forget", or None."""
    word, *labels = step
    if word == "new":
        if labels[0] in graph.labels:
            return None
        return Marked(graph.many + 1, graph.edges, {**graph.labels, labels[0]: graph.many})
    if any(label not in graph.labels for label in labels):
        return None
    if word == "forget":
        left = {label: v for label, v in graph.labels.items() if label != labels[0]}
        return Marked(graph.many, graph.edges, left)
    edge = frozenset(graph.labels[label] for label in labels)
    if edge in graph.edges:
        return None
    return Marked(graph.many, graph.edges | {edge}, graph.labels)


def play(term):
    """The first step that cannot be done, or None; and all that is made.

    All steps have the right form. The latter is a list of the marked graphs
    of the steps that were done, and a list of the steps whose graphs they
    took.
    """
    stack, graphs, taken = [], [], []
    for index, step in enumerate(term):
        many = {"empty": 0, "join": 2}.get(step[0], 1)
        if len(stack) < many:
            return index, graphs, taken
        used = [stack.pop() for _ in range(many)][::-1]
        if step == EMPTY:
            graph = Marked(0, [], {})
        elif step == JOIN:
            graph = join_of(graphs[used[0]], graphs[used[1]])
        else:
            graph = changed(graphs[used[0]], step)
        if graph is None:
            return index, graphs, taken
        graphs.append(graph)
        taken.append(tuple(used))
        stack.append(index)
    return (None if len(stack) == 1 else len(term)), graphs, taken


def every_tuple_of_steps(k, most):
    for many in range(most + 1):
        yield from product(every_step(k), repeat=many)


def some_term(random, k, most):
    """A term of about so many steps, chosen at random."""
    term = []
    while len(term) < most:
        wrong, graphs, taken = play(term)
        on_stack = set(range(len(term))) - {at for used in taken for at in used}
        steps = every_step(k)
        if len(on_stack) > 2:
            steps = [step for step in steps if step != EMPTY]
        random.shuffle(steps)
        for step in steps:
            if play(term + [step])[0] in (None, len(term) + 1):
                term.append(step)
                break
        else:
            break
    return tuple(finished(term))


def finished(term):
    """Steps with which a stack of several graphs becomes one graph."""
    term = list(term)
    while True:
        wrong, graphs, taken = play(term)
        if wrong is None:
            return term
        # The upper two graphs are made to have no labels, then joined.
        used = {at for pair in taken for at in pair}
        stack = [at for at in range(len(term)) if at not in used]
        if not stack:
            return [EMPTY]
        if graphs[stack[-1]].labels:
            term.append(("forget", min(graphs[stack[-1]].labels)))
        elif graphs[stack[-2]].labels:
            # The lower one gets as many labels above it as it has itself.
            term += [("new", label) for label in sorted(graphs[stack[-2]].labels)]
            term.append(JOIN)
        else:
            term.append(JOIN)
