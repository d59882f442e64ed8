"""Kinds and classes by the definition ([6.2] to [6.4]), and some sentences."""

from itertools import combinations, product

from smallwidth.formulatext import formula_of
from smallwidth.known import colourable, connected, dominating, independent, matching
from smallwidth.states import first_state, forgotten, joined, truth, with_edge, with_vertex
from state_helpers import closed_up, free_in, some_formula
from term_helpers import EMPTY, JOIN, Marked, changed, join_of

SET, EDGES = ("V", 0), ("E", 0)
TRUE = ("true",)
FALSE = ("not", TRUE)
CENTRE = formula_of("some v0 (all v1 ((v0 = v1 | v0 ~ v1)))")
SOME = formula_of("some v0 (true)")
TWO = formula_of("some v0 (some v1 (!(v0 = v1)))")
EDGE = formula_of("some e0 (true)")
LONELY = formula_of("some v0 (all v1 (!(v0 ~ v1)))")
TRIANGLE = formula_of("some v0 (some v1 (some v2 (((v0 ~ v1 & v1 ~ v2) & v0 ~ v2))))")
COVERED = formula_of("all v0 (some e0 ((e0 in E0 & e0 : v0)))")
PERFECT = ("some", EDGES, ("and", matching(EDGES), COVERED))
KERNEL = ("some", SET, ("and", independent(SET), dominating(SET)))

SENTENCES = [
    TRUE, FALSE, CENTRE, SOME, TWO, EDGE, LONELY, colourable(1), colourable(2), connected(),
    PERFECT, ("not", connected()), ("and", SOME, ("not", EDGE)),
]


def steps_in_order(k):
    """The steps but joins, in the order in which [6.4] tries them."""
    labels = range(k + 1)
    steps = [("new", i) for i in labels] + [("edge", *pair) for pair in combinations(labels, 2)]
    return steps + [("forget", i) for i in labels]


def state_behind(formula, state, step):
    """The state of a sentence behind a step, by part 5."""
    full = ((), state)
    if step[0] == "new":
        return with_vertex(formula, full, step[1], ())[1]
    if step[0] == "edge":
        return with_edge(formula, full, step[1], step[2], ())[1]
    return forgotten(formula, full, step[1])[1]


class PlainKinds:
    """All kinds, each with a term, and where steps and joins lead.

    `terms`, `graphs` and `states` stand in the order of the kinds.
    """

    def __init__(self, formula, k):
        self.formula = formula
        self.steps = steps_in_order(k)
        self.terms, self.graphs, self.states = [], [], []
        self.behind, self.joins = {}, {}
        self.number = {}
        self.found((EMPTY,), Marked(0, [], {}), first_state(formula)[1])
        at = 0
        while at < len(self.terms):
            self.go_on_from(at)
            at += 1

    def found(self, term, graph, state):
        kind = (graph.frame(), state)
        if kind not in self.number:
            self.number[kind] = len(self.terms)
            self.terms.append(term)
            self.graphs.append(graph)
            self.states.append(state)
        return self.number[kind]

    def go_on_from(self, at):
        for step in self.steps:
            graph = changed(self.graphs[at], step)
            if graph is not None:
                state = state_behind(self.formula, self.states[at], step)
                self.behind[at, step] = self.found(self.terms[at] + (step,), graph, state)
        for other in range(at + 1):
            graph = join_of(self.graphs[at], self.graphs[other])
            if graph is not None:
                both = joined(self.formula, ((), self.states[at]), ((), self.states[other]))
                term = self.terms[at] + self.terms[other] + (JOIN,)
                number = self.found(term, graph, both[1])
                self.joins[at, other] = self.joins[other, at] = number

    def moves(self, at):
        """Where each step, and the join with each kind, leads."""
        steps = {step: self.behind[at, step] for step in self.steps if (at, step) in self.behind}
        others = range(len(self.terms))
        joins = {other: self.joins[at, other] for other in others if (at, other) in self.joins}
        return {**steps, **joins}

    def holds(self, at):
        return truth(self.formula, ((), self.states[at]))

    def classes(self):
        """For each kind its class, by setting apart what differs."""
        many = range(len(self.terms))
        moves = [self.moves(at) for at in many]
        apart = {
            (a, b) for a, b in product(many, repeat=2)
            if self.graphs[a].frame() != self.graphs[b].frame() or self.holds(a) != self.holds(b)
        }
        changing = True
        while changing:
            more = {
                (a, b) for a, b in product(many, repeat=2) if (a, b) not in apart
                and any((moves[a][move], moves[b][move]) in apart for move in moves[a])
            }
            apart |= more
            changing = bool(more)
        firsts, found = [], []
        for a in many:
            own = [c for c, first in enumerate(firsts) if (a, first) not in apart]
            if not own:
                own = [len(firsts)]
                firsts.append(a)
            found.append(own[0])
        return found


def some_sentence(source, deep):
    """A sentence chosen at random, with at least one variable in it."""
    while True:
        formula = closed_up(source, some_formula(source, deep))
        if "v" in str(formula).lower() and not free_in(formula):
            return formula
