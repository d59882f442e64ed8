"""Promises [5.1] to [5.15]: states, held against the definition."""

import unittest
from collections import Counter
from itertools import permutations, product
from random import Random

from smallwidth.errors import BadTerm, BadValues, TooMany
from smallwidth.formula import free, rank
from smallwidth.formulatext import formula_of
from smallwidth.known import closed, colourable, connected, dominating, independent, matching
from smallwidth.states import (
    first_state, forgotten, joined, term_state, truth, with_edge, with_vertex,
)
from smallwidth.terms import made
from smallwidth.truth import holds
from state_helpers import (
    NO, NOWHERE, OPEN, YES, World, every_choice, full_state, some_formula, state_in, true_in,
    world_of, world_of_marked,
)
from term_helpers import EMPTY, JOIN, STRANGE, play, some_term
from ways_helpers import ways_of

X, Y = ("v", 0), ("v", 1)
E, F = ("e", 0), ("e", 1)
SET, OTHER = ("V", 0), ("V", 1)
EDGES, MORE = ("E", 0), ("E", 1)
TRUE = ("true",)
CENTRE = formula_of("some v0 (all v1 ((v0 = v1 | v0 ~ v1)))")
ATOMS = [
    TRUE, ("same", X, Y), ("same", X, X), ("same", E, F), ("same", E, E), ("near", X, Y),
    ("near", X, X), ("ends", E, X), ("in", X, SET), ("in", E, EDGES), ("within", SET, OTHER),
    ("within", SET, SET), ("within", EDGES, MORE), ("within", EDGES, EDGES),
]

# Two sources, 0 with label 1 and 1 with label 0; 2 and 3 are inner vertices.
MIXED = World(4, [(0, 1), (0, 2), (2, 3)], {1: 0, 0: 1})

TERMS = [
    (EMPTY,),
    (EMPTY, ("new", 0), ("new", 2), ("edge", 0, 2), ("forget", 0), ("new", 1), ("edge", 1, 2)),
    (EMPTY, ("new", 0), ("new", 1), ("edge", 0, 1), ("forget", 1),
     EMPTY, ("new", 0), ("new", 1), ("forget", 1), JOIN, ("forget", 0)),
    (EMPTY, ("new", 0), ("new", 1), EMPTY, ("new", 1), ("new", 0), ("edge", 0, 1), JOIN,
     ("forget", 0), ("new", 0), ("edge", 0, 1)),
    (EMPTY, ("new", 0), ("forget", 0), EMPTY, ("new", 1), ("forget", 1), JOIN, ("new", 1)),
]


def ways_by_definition(formula, world):
    variables = free(formula)
    return Counter(
        full_state(world, formula, variables, values)
        for values in every_choice(world, variables, nowhere=True)
    )


def long_ring(many):
    """A term of the ring with so many vertices, for k = 2."""
    term = [EMPTY, ("new", 0), ("new", 1), ("edge", 0, 1)]
    here, there = 1, 2
    for _ in range(many - 2):
        term += [("new", there), ("edge", 1, 2), ("forget", here)]
        here, there = there, here
    return tuple(term + [("edge", 0, here), ("forget", 0), ("forget", here)])


def long_tree(many):
    """A term for k = 1 of a tree: a path, each of whose vertices has a leaf."""
    term = [EMPTY, ("new", 0), ("new", 1), ("edge", 0, 1), ("forget", 1)]
    here = 0
    for _ in range(many // 2 - 1):
        there = 1 - here
        term += [("new", there), ("edge", 0, 1), ("forget", here)]
        term += [EMPTY, ("new", 0), ("new", 1), ("edge", 0, 1), ("forget", here), JOIN]
        here = there
    return tuple(term + [("forget", here)])


class FirstTest(unittest.TestCase):
    def test_atoms(self):
        for atom in ATOMS:
            marks = tuple({"v": -1, "e": 0, "V": (), "E": 0}[sort] for sort, _ in free(atom))
            self.assertEqual(first_state(atom), (marks, YES if atom == TRUE else OPEN))

    def test_marks_stand_in_the_order_of_the_variables(self):
        formula = ("and", ("in", X, SET), ("and", ("in", E, EDGES), ("within", OTHER, SET)))
        self.assertEqual(free(formula), [EDGES, SET, OTHER, E, X])
        self.assertEqual(
            first_state(formula), ((0, (), (), 0, -1), ("pair", OPEN, ("pair", OPEN, OPEN))),
        )

    def test_by_hand(self):
        self.assertEqual(first_state(("some", X, TRUE)), ((), ("many", ((-1, YES),))))
        self.assertEqual(first_state(("all", X, TRUE)), ((), YES))
        self.assertEqual(first_state(("some", X, ("not", TRUE))), ((), NO))
        self.assertEqual(first_state(("all", E, ("not", TRUE))), ((), ("many", ((0, NO),))))
        self.assertEqual(first_state(("some", SET, TRUE)), ((), YES))
        self.assertEqual(first_state(("all", EDGES, TRUE)), ((), YES))
        self.assertEqual(first_state(("all", SET, ("not", TRUE))), ((), NO))
        self.assertEqual(
            first_state(("some", SET, ("within", SET, SET))), ((), ("many", (((), OPEN),))),
        )

    def test_not_and_or(self):
        no = ("not", TRUE)
        near = ("near", X, Y)
        told = [
            (("not", near), OPEN), (("not", no), YES), (no, NO),
            (("and", TRUE, TRUE), YES), (("and", near, no), NO), (("and", no, near), NO),
            (("and", TRUE, near), ("pair", YES, OPEN)), (("and", near, TRUE), ("pair", OPEN, YES)),
            (("and", near, near), ("pair", OPEN, OPEN)),
            (("or", no, no), NO), (("or", near, TRUE), YES), (("or", TRUE, near), YES),
            (("or", no, near), ("pair", NO, OPEN)), (("or", near, no), ("pair", OPEN, NO)),
            (("not", ("and", TRUE, near)), ("pair", YES, OPEN)),
        ]
        for formula, state in told:
            self.assertEqual(first_state(formula)[1], state, formula)


class StepsTest(unittest.TestCase):
    def check_term(self, formula, term):
        wrong, graphs, _ = play(term)
        self.assertIn(wrong, (None, len(term)))
        for ways, graph in zip(ways_of(formula, term), graphs):
            expected = ways_by_definition(formula, world_of_marked(graph))
            self.assertEqual(ways, expected, (formula, term))

    def test_atoms_for_all_values(self):
        for term in TERMS:
            for atom in ATOMS:
                self.check_term(atom, term)

    def test_bound_atoms(self):
        for term in TERMS[1:]:
            for atom in ATOMS[1:]:
                for words in product(("some", "all"), repeat=len(free(atom))):
                    for variables in permutations(free(atom)):
                        formula = atom
                        for word, variable in zip(words, variables):
                            formula = (word, variable, formula)
                            self.check_term(formula, term)

    def test_known_formulas(self):
        known = [independent(SET), dominating(SET), closed(SET), matching(EDGES), CENTRE]
        for term in TERMS:
            for formula in known + [colourable(1), colourable(2), connected()]:
                self.check_term(formula, term)

    def test_bound_again(self):
        formulas = [
            ("and", ("near", X, Y), ("some", X, ("near", X, Y))),
            ("some", X, ("or", ("all", X, ("near", X, Y)), ("same", X, Y))),
            ("or", ("in", X, SET), ("some", SET, ("in", X, SET))),
            ("all", X, ("some", X, ("ends", E, X))),
            ("all", SET, ("and", ("within", SET, OTHER), ("some", OTHER, ("within", OTHER, SET)))),
            ("some", Y, ("some", X, ("some", Y, ("near", X, Y)))),
        ]
        for term in TERMS:
            for formula in formulas:
                self.check_term(formula, term)

    def test_chosen_formulas_and_terms(self):
        source = Random(61)
        tried = 0
        while tried < 300:
            formula = some_formula(source, source.randrange(1, 6))
            term = some_term(source, source.randrange(3), source.randrange(2, 12))
            graphs = play(term)[1]
            sets = sum(text in str(formula) for text in ("'V'", "'E'"))
            small = max(graph.many for graph in graphs) <= (3 if sets else 5)
            few = max(len(graph.edges) for graph in graphs) <= 3
            if rank(formula) <= 3 and len(free(formula)) <= 3 and small and few:
                tried += 1
                self.check_term(formula, term)

    def test_joins_in_both_orders(self):
        source = Random(67)
        for _ in range(60):
            formula = some_formula(source, 4)
            if len(free(formula)) > 2 or rank(formula) > 2:
                continue
            first = ways_of(formula, TERMS[1][:6])[-1]
            second = ways_of(formula, (EMPTY, ("new", 2), ("new", 1), ("forget", 1), ("new", 1)))[-1]
            for one, other in product(first, second):
                self.assertEqual(joined(formula, one, other), joined(formula, other, one))

    def test_settled_states_stay(self):
        source = Random(71)
        for _ in range(80):
            formula = some_formula(source, 3)
            if len(free(formula)) > 2:
                continue
            for settled in (YES, NO):
                marks = first_state(formula)[0]
                full = (marks, settled)
                chosen = (False,) * len(marks)
                self.assertEqual(with_vertex(formula, full, 0, chosen), full)
                self.assertEqual(with_edge(formula, full, 0, 1, chosen), full)
                self.assertEqual(forgotten(formula, full, 0), full)
                other = first_state(formula)
                if other[1] not in (YES, NO):
                    self.assertEqual(joined(formula, full, other), full)
                    self.assertEqual(joined(formula, other, full), full)

    def test_one_graph_from_two_terms(self):
        first = (EMPTY, ("new", 0), ("new", 1), ("new", 2), ("edge", 0, 1), ("edge", 1, 2),
                 ("forget", 1))
        second = (EMPTY, ("new", 0), ("new", 1), ("edge", 0, 1), ("new", 2),
                  EMPTY, ("new", 2), ("new", 1), ("edge", 1, 2), ("new", 0), JOIN, ("forget", 1))
        for formula in (CENTRE, colourable(2), connected(), ("some", EDGES, matching(EDGES))):
            self.assertEqual(term_state(formula, first, 2), term_state(formula, second, 2))
        for formula in (independent(SET), ("near", X, Y), ("ends", E, X), matching(EDGES)):
            self.assertEqual(ways_of(formula, first)[-1], ways_of(formula, second)[-1])


class ChoicesTest(unittest.TestCase):
    def test_vertices_that_cannot_be_chosen(self):
        formula = ("and", ("in", X, SET), ("in", E, EDGES))
        self.assertEqual(free(formula), [EDGES, SET, E, X])
        full = first_state(formula)
        for chosen in product((False, True), repeat=4):
            found = with_vertex(formula, full, 3, chosen)
            if chosen[0] or chosen[2]:
                self.assertIsNone(found)
            else:
                mark = (0, (3,) if chosen[1] else (), 0, 3 if chosen[3] else -1)
                self.assertEqual(found[0], mark)
        there = with_vertex(formula, full, 0, (False, False, False, True))
        for full in (there, forgotten(formula, there, 0)):
            self.assertIsNone(with_vertex(formula, full, 1, (False, False, False, True)))
            self.assertIsNotNone(with_vertex(formula, full, 1, (False, True, False, False)))

    def test_edges_that_cannot_be_chosen(self):
        formula = ("and", ("in", X, SET), ("in", E, EDGES))
        none = (False,) * 4
        full = with_vertex(formula, with_vertex(formula, first_state(formula), 0, none), 1, none)
        for chosen in product((False, True), repeat=4):
            found = with_edge(formula, full, 0, 1, chosen)
            if chosen[1] or chosen[3]:
                self.assertIsNone(found)
            else:
                self.assertEqual(found[0], (0, (), 1 if chosen[2] else 0, -1))
        there = with_edge(formula, full, 0, 1, (True, False, True, False))
        self.assertIsNone(with_edge(formula, there, 0, 2, (False, False, True, False)))
        self.assertIsNotNone(with_edge(formula, there, 0, 2, (True, False, False, False)))

    def test_settled_ones_cannot_be_chosen_either(self):
        for state in (YES, NO):
            self.assertIsNone(with_vertex(("same", X, Y), ((0, -1), state), 1, (True, False)))
            self.assertEqual(
                with_vertex(("same", X, Y), ((0, -1), state), 1, (False, True)), ((0, 1), state),
            )
            self.assertIsNone(with_edge(("same", E, F), ((1, 0), state), 0, 1, (True, True)))
            self.assertIsNone(joined(("same", E, F), ((1, 0), state), ((1, 0), state)))

    def test_joins_that_do_not_fit(self):
        fits = {
            "v": {(-1, -1): -1, (-1, -2): -2, (-2, -1): -2, (0, 0): 0, (1, 1): 1},
            "e": {(0, 0): 0, (0, 1): 1, (1, 0): 1},
            "V": {(mark, mark): mark for mark in [(), (0,), (1,), (0, 1)]},
            "E": {(0, 0): 0},
        }
        marks = {"v": [-2, -1, 0, 1], "e": [0, 1], "V": [(), (0,), (1,), (0, 1)], "E": [0]}
        for sort in "veVE":
            first, second = (sort, 0), (sort, 1)
            formula = ("same", first, second) if sort in "ve" else ("within", first, second)
            for a, b in product(marks[sort], repeat=2):
                for c, d in product(marks[sort], repeat=2):
                    found = joined(formula, ((a, c), OPEN), ((b, d), OPEN))
                    whole = (fits[sort].get((a, b)), fits[sort].get((c, d)))
                    self.assertEqual(found, None if None in whole else (whole, OPEN))


class TooManyTest(unittest.TestCase):
    def sources(self, many):
        return (EMPTY, *(("new", label) for label in range(many)))

    def test_most_pairs(self):
        # Each set of sources has a mark of its own, and its state is open.
        formula = ("some", SET, ("within", SET, SET))
        state = term_state(formula, self.sources(11), 12)[1]
        self.assertEqual(len(state[1]), 2048)
        self.assertEqual(list(state[1]), sorted(state[1]))
        for word in ("some", "all"):
            with self.assertRaises(TooMany):
                term_state((word, SET, ("within", SET, SET)), self.sources(12), 12)
        full = ((), state)
        with self.assertRaises(TooMany):
            with_vertex(formula, full, 11, ())
        self.assertEqual(len(forgotten(formula, full, 0)[1][1]), 1024)

    def test_exactly_three_thousand(self):
        # Each set becomes two, one of them with the new vertex.
        formula = ("some", SET, ("within", SET, SET))
        labels = range(11)
        marks = sorted(
            tuple(label for label in labels if number >> label & 1) for number in range(1500)
        )
        full = ((), ("many", tuple((mark, OPEN) for mark in marks)))
        most = with_vertex(formula, full, 12, ())
        self.assertEqual(len(most[1][1]), 3000)
        self.assertEqual(forgotten(formula, most, 11), most)
        more = ((), ("many", tuple(sorted(most[1][1] + (((0, 11), OPEN),)))))
        with self.assertRaises(TooMany):
            with_edge(formula, more, 0, 1, ())
        marks = sorted(marks + [(0, 11)])
        full = ((), ("many", tuple((mark, OPEN) for mark in marks)))
        with self.assertRaises(TooMany):
            with_vertex(formula, full, 12, ())
        self.assertEqual(len(forgotten(formula, full, 10)[1][1]), 1025)

    def test_a_part_within(self):
        inner = ("some", SET, ("within", SET, OTHER))
        formula = ("some", X, ("and", ("near", X, X), ("all", OTHER, inner)))
        with self.assertRaises(TooMany):
            term_state(formula, self.sources(12), 12)

    def test_what_is_left_out_does_not_count(self):
        # Only the empty set of sources can still be a part of no vertices.
        formula = ("some", SET, ("all", X, ("not", ("in", X, SET))))
        state = term_state(formula, self.sources(12), 12)[1]
        self.assertEqual(len(state[1]), 1)
        settled = ("some", SET, ("some", X, ("in", X, SET)))
        self.assertEqual(term_state(settled, self.sources(12), 12), ((), YES))


class TruthTest(unittest.TestCase):
    def test_atoms(self):
        for atom in ATOMS:
            variables = free(atom)
            for values in every_choice(MIXED, variables, nowhere=True):
                told = truth(atom, full_state(MIXED, atom, variables, values))
                if NOWHERE in values.values():
                    self.assertIsNone(told)
                else:
                    self.assertIs(told, true_in(MIXED, atom, values))

    def test_chosen_formulas(self):
        source = Random(73)
        world = World(3, [(0, 1), (1, 2)], {0: 1, 1: 2})
        for _ in range(300):
            formula = some_formula(source, 4)
            variables = free(formula)
            choices = every_choice(world, variables, nowhere=True)
            if rank(formula) > 3 or not choices:
                continue
            for values in source.sample(choices, min(5, len(choices))):
                told = truth(formula, full_state(world, formula, variables, values))
                if NOWHERE in values.values():
                    self.assertIsNone(told)
                else:
                    self.assertIs(told, true_in(world, formula, values))

    def test_nothing_is_here(self):
        self.assertIs(truth(("some", X, TRUE), ((), ("many", ((-1, YES),)))), False)
        no = ("not", TRUE)
        self.assertIs(truth(("all", X, no), ((), ("many", ((-1, NO),)))), True)
        self.assertIs(truth(("all", E, no), ((), ("many", ((0, NO),)))), True)
        self.assertIs(truth(("not", ("some", X, TRUE)), ((), ("many", ((-1, YES),)))), True)


class TermStateTest(unittest.TestCase):
    def test_example(self):
        no_pair = ("pair", NO, OPEN)
        a = ("many", ((-1, ("pair", OPEN, OPEN)), (0, no_pair)))
        b = ("many", ((-1, no_pair),))
        first = term_state(CENTRE, (EMPTY, ("new", 0)), 0)
        self.assertEqual(first, ((), ("many", ((-1, a), (0, b)))))
        self.assertIs(truth(CENTRE, first), True)
        second = term_state(CENTRE, (EMPTY, ("new", 0), ("forget", 0)), 0)
        self.assertEqual(second, ((), ("many", ((-2, ("many", ((-1, ("no",)),))),))))
        self.assertIs(truth(CENTRE, second), True)
        third = term_state(CENTRE, (EMPTY, ("new", 0), ("forget", 0), ("new", 0)), 0)
        self.assertIs(truth(CENTRE, third), False)

    def test_chosen_sentences(self):
        source = Random(79)
        tried = 0
        while tried < 150:
            formula = some_formula(source, 5)
            if free(formula) or rank(formula) > 3:
                continue
            k = source.randrange(3)
            term = some_term(source, k, source.randrange(1, 14))
            graph, _ = made(term, k)
            if graph.size > 5 or len(graph.edges) > 5:
                continue
            tried += 1
            full = term_state(formula, term, k)
            self.assertEqual(full[0], ())
            self.assertIs(truth(formula, full), holds(graph, formula, {}))
            if graph.size < 4:
                marked = play(term)[1][-1]
                expected = state_in(world_of_marked(marked), formula, {})
                self.assertEqual(full[1], expected)

    def test_errors(self):
        for value in STRANGE + [[EMPTY], (EMPTY, EMPTY), (JOIN,), (EMPTY, ("new", 1))]:
            with self.assertRaises(BadTerm):
                term_state(CENTRE, value, 0)
        with self.assertRaises(BadTerm) as caught:
            term_state(("same", X, X), (EMPTY, ("new", 0), ("new", 0)), 1)
        self.assertEqual(caught.exception.index, 2)
        for k in (-1, 13, True, None, "1"):
            with self.assertRaises(BadTerm) as caught:
                term_state(CENTRE, (EMPTY,), k)
            self.assertEqual(caught.exception.index, -1)
        for formula in (("same", X, X), ("some", X, ("in", X, SET)), independent(SET)):
            with self.assertRaises(BadValues):
                term_state(formula, (EMPTY,), 0)

    def test_long_terms(self):
        short = {many: term_state(connected(), long_ring(many), 2) for many in (6, 60)}
        self.assertEqual(short[6], short[60])
        triangle = formula_of("some v0 (some v1 (some v2 (((v0 ~ v1 & v1 ~ v2) & v0 ~ v2))))")
        whole = ("some", EDGES, ("and", matching(EDGES), formula_of(
            "all v0 (some e0 ((e0 in E0 & e0 : v0)))")))
        told = [
            (colourable(1), long_ring(60), False), (colourable(2), long_ring(60), True),
            (colourable(2), long_ring(59), False), (colourable(3), long_ring(59), True),
            (connected(), long_ring(60), True), (connected(), long_tree(60), True),
            (triangle, long_ring(60), False), (triangle, long_ring(3), True),
            (CENTRE, long_tree(60), False), (colourable(2), long_tree(60), True),
            (whole, long_ring(60), True), (whole, long_ring(59), False),
            (whole, long_tree(60), True),
        ]
        for formula, term, expected in told:
            self.assertIs(truth(formula, term_state(formula, term, 2)), expected)
        self.assertEqual(made(long_tree(60), 1)[0].size, 60)
        apart = long_tree(60) + (EMPTY, ("new", 0), ("forget", 0), JOIN)
        self.assertIs(truth(connected(), term_state(connected(), apart, 1)), False)


if __name__ == "__main__":
    unittest.main()
