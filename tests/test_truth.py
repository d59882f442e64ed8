"""Promises [4.4] to [4.7]: truth by the definition."""

import copy
import unittest
from itertools import product
from random import Random

from graph_helpers import circle, every_graph, full, path, some_graph
from smallwidth.errors import BadValues, TooLarge
from smallwidth.graph import Graph
from smallwidth.truth import holds, satisfying, values_of
from state_helpers import SORTS, every_choice, free_in, some_formula, true_in, world_of
from term_helpers import STRANGE

X, Y, Z = ("v", 0), ("v", 1), ("v", 2)
E, F = ("e", 0), ("e", 1)
SET, OTHER = ("V", 0), ("V", 1)
EDGES, MORE = ("E", 0), ("E", 1)
TRUE = ("true",)
FALSE = ("not", TRUE)
CENTRE = ("some", X, ("all", Y, ("or", ("same", X, Y), ("near", X, Y))))

ATOMS = [
    TRUE, ("same", X, Y), ("same", X, X), ("same", E, F), ("near", X, Y), ("near", X, X),
    ("ends", E, X), ("in", X, SET), ("in", E, EDGES), ("within", SET, OTHER),
    ("within", SET, SET), ("within", EDGES, MORE),
]

# What is no value of a sort in the path 0 - 1 - 2.
WRONG = {
    "v": [-1, 3, 10 ** 6000, True, False, None, "0", (0,), [0], (), (0, 1), 0.0],
    "e": [(0, 2), (1, 0), (0, 0), (0, 3), (0,), (0, 1, 2), (), 0, [0, 1], "01", (0, True),
          (False, 1), ((0, 1),), None, ("0", "1"), (1, 10 ** 6000)],
    "V": [(1, 0), (0, 0), (0, 3), (-1,), [0], 0, (True,), (0, True), (False,), None, {0: 1},
          ((0, 1),), ("0",), (0, None), (0, 10 ** 6000)],
    "E": [((1, 2), (0, 1)), ((0, 1), (0, 1)), ((0, 2),), ((1, 0),), [(0, 1)], (0, 1), 0, (0,),
          ([0, 1],), ((False, 1),), ((0, True),), None, ((0, 1), None), ((0, 1), (1, 3))],
}
SOME_VALUE = {"v": 1, "e": (0, 1), "V": (0, 2), "E": ((0, 1), (1, 2))}


def closed_under(word, variables, formula):
    for variable in reversed(variables):
        formula = (word, variable, formula)
    return formula


class HoldsTest(unittest.TestCase):
    def test_example(self):
        self.assertIs(holds(path(3), CENTRE, {}), True)
        self.assertIs(holds(Graph(0, []), CENTRE, {}), False)
        self.assertIs(holds(circle(4), CENTRE, {}), False)

    def test_atoms_for_all_values(self):
        for graph in every_graph(3) + every_graph(2) + [path(4), Graph(0, []), Graph(1, [])]:
            world = world_of(graph)
            for atom in ATOMS:
                for values in every_choice(world, free_in(atom)):
                    self.assertIs(holds(graph, atom, values), true_in(world, atom, values))

    def test_atoms_by_hand(self):
        graph = Graph(4, [(0, 1), (1, 2)])
        told = [
            (("same", X, Y), {X: 3, Y: 3}, True),
            (("same", X, Y), {X: 0, Y: 3}, False),
            (("same", E, F), {E: (0, 1), F: (0, 1)}, True),
            (("same", E, F), {E: (0, 1), F: (1, 2)}, False),
            (("near", X, Y), {X: 2, Y: 1}, True),
            (("near", X, Y), {X: 1, Y: 2}, True),
            (("near", X, Y), {X: 0, Y: 2}, False),
            (("near", X, Y), {X: 1, Y: 1}, False),
            (("ends", E, X), {E: (1, 2), X: 2}, True),
            (("ends", E, X), {E: (1, 2), X: 1}, True),
            (("ends", E, X), {E: (1, 2), X: 0}, False),
            (("in", X, SET), {X: 3, SET: (1, 3)}, True),
            (("in", X, SET), {X: 2, SET: (1, 3)}, False),
            (("in", E, EDGES), {E: (1, 2), EDGES: ((0, 1), (1, 2))}, True),
            (("in", E, EDGES), {E: (1, 2), EDGES: ((0, 1),)}, False),
            (("within", SET, OTHER), {SET: (1,), OTHER: (0, 1)}, True),
            (("within", SET, OTHER), {SET: (0, 1), OTHER: (1,)}, False),
            (("within", SET, OTHER), {SET: (), OTHER: ()}, True),
            (("within", EDGES, MORE), {EDGES: (), MORE: ((0, 1),)}, True),
            (("within", EDGES, MORE), {EDGES: ((1, 2),), MORE: ((0, 1),)}, False),
        ]
        for formula, values, expected in told:
            self.assertIs(holds(graph, formula, values), expected, (formula, values))
            self.assertIs(holds(graph, ("not", formula), values), not expected)

    def test_and_or_not(self):
        for a, b in product((TRUE, FALSE), repeat=2):
            first, second = a == TRUE, b == TRUE
            self.assertIs(holds(path(2), ("and", a, b), {}), first and second)
            self.assertIs(holds(path(2), ("or", a, b), {}), first or second)
            self.assertIs(holds(path(2), ("not", a), {}), not first)

    def test_some_and_all_without_values(self):
        nothing = Graph(0, [])
        for sort, there in (("v", False), ("e", False), ("V", True), ("E", True)):
            self.assertIs(holds(nothing, ("some", (sort, 0), TRUE), {}), there)
            self.assertIs(holds(nothing, ("all", (sort, 0), FALSE), {}), not there)
        lonely = Graph(2, [])
        self.assertIs(holds(lonely, ("some", E, TRUE), {}), False)
        self.assertIs(holds(lonely, ("some", X, TRUE), {}), True)

    def test_all_sorts_are_gone_through(self):
        graph = Graph(3, [(0, 1), (1, 2)])
        full_sets = {"V": (0, 1, 2), "E": ((0, 1), (1, 2))}
        for sort in ("V", "E"):
            set_, other = (sort, 0), (sort, 1)
            whole = ("all", other, ("within", other, set_))
            for value in values_of(graph, sort):
                self.assertIs(holds(graph, whole, {set_: value}), value == full_sets[sort])
        isolated = ("some", X, ("all", E, ("not", ("ends", E, X))))
        self.assertFalse(holds(graph, isolated, {}))
        self.assertTrue(holds(Graph(4, graph.edges), isolated, {}))

    def test_bound_again(self):
        # [4.4]: the innermost one counts, and what is outside comes back.
        inner = ("some", X, ("near", X, Y))
        self.assertIs(holds(path(2), ("and", inner, ("same", X, Y)), {X: 0, Y: 0}), True)
        self.assertIs(holds(path(2), ("and", inner, ("same", X, Y)), {X: 1, Y: 0}), False)
        self.assertIs(holds(path(2), ("and", ("same", X, Y), inner), {X: 0, Y: 0}), True)
        outer = ("some", X, ("and", ("all", X, TRUE), ("same", X, Y)))
        self.assertIs(holds(path(3), outer, {Y: 2}), True)
        every = ("all", X, ("or", ("some", X, ("not", ("near", X, X))), ("near", X, X)))
        self.assertIs(holds(path(3), every, {}), True)
        again = ("all", X, ("and", ("all", X, ("some", Y, ("near", X, Y))), ("in", X, SET)))
        self.assertIs(holds(path(3), again, {SET: (0, 1, 2)}), True)
        self.assertIs(holds(path(3), again, {SET: (0, 1)}), False)
        sets = ("some", SET, ("and", ("some", SET, ("in", X, SET)), ("not", ("in", X, SET))))
        self.assertIs(holds(path(1), sets, {X: 0}), True)

    def test_a_bound_variable_may_have_a_value(self):
        self.assertIs(holds(path(3), ("some", X, ("same", X, Y)), {X: 0, Y: 2}), True)
        self.assertIs(holds(path(3), CENTRE, {X: 0, Y: 0}), True)

    def test_chosen_formulas(self):
        source = Random(41)
        for _ in range(400):
            formula = some_formula(source, source.randrange(2, 6), (0, 1, 9))
            graph = some_graph(source, source.randrange(4))
            world = world_of(graph)
            choices = every_choice(world, free_in(formula))
            for values in source.sample(choices, min(4, len(choices))):
                expected = true_in(world, formula, values)
                self.assertIs(holds(graph, formula, values), expected, (formula, values))

    def test_arguments_stay_as_they_are(self):
        values = {Y: 2, SET: (0, 2)}
        before = copy.deepcopy(values)
        formula = ("some", X, ("some", Y, ("and", ("near", X, Y), ("in", X, SET))))
        graph = path(3)
        holds(graph, formula, values)
        self.assertEqual(values, before)
        self.assertEqual(list(values), list(before))
        self.assertEqual(graph.edges, ((0, 1), (1, 2)))


class BadValuesTest(unittest.TestCase):
    def test_values_that_are_missing(self):
        for atom in ATOMS:
            variables = free_in(atom)
            for left_out in variables:
                values = {v: SOME_VALUE[v[0]] for v in variables if v != left_out}
                with self.assertRaises(BadValues):
                    holds(path(3), atom, values)
                # The same number of another sort is another variable.
                values.update({(sort, left_out[1]): SOME_VALUE[sort] for sort in SORTS
                               if sort != left_out[0]})
                with self.assertRaises(BadValues):
                    holds(path(3), atom, values)
        with self.assertRaises(BadValues):
            holds(path(3), ("and", ("some", X, TRUE), ("same", X, X)), {})
        with self.assertRaises(BadValues):
            holds(path(3), ("or", TRUE, ("same", X, X)), {})
        with self.assertRaises(BadValues):
            holds(path(3), ("some", Y, ("near", X, Y)), {Y: 0})

    def test_values_of_the_wrong_sort(self):
        for sort, wrong in WRONG.items():
            variable = (sort, 0)
            formula = ("not", ("and", TRUE, ("same", variable, variable)))
            if sort in "VE":
                formula = ("within", variable, variable)
            self.assertIn(holds(path(3), formula, {variable: SOME_VALUE[sort]}), (True, False))
            for value in wrong + STRANGE:
                if sort in "VE" and isinstance(value, tuple) and not value:
                    continue
                if sort == "v" and not isinstance(value, bool) and isinstance(value, int):
                    if 0 <= value < 3:
                        continue
                with self.assertRaises(BadValues):
                    holds(path(3), formula, {variable: value})

    def test_values_of_other_variables(self):
        others = {(sort, 7): SOME_VALUE[sort] for sort in SORTS}
        self.assertIs(holds(path(3), CENTRE, others), True)
        self.assertIs(holds(path(3), ("near", X, Y), {X: 0, Y: 2, **others}), False)
        for sort, wrong in WRONG.items():
            with self.assertRaises(BadValues):
                holds(path(3), CENTRE, {**others, (sort, 8): wrong[0]})

    def test_empty_sets_are_values(self):
        for graph in (Graph(0, []), path(3)):
            self.assertIs(holds(graph, ("within", SET, SET), {SET: ()}), True)
            self.assertIs(holds(graph, ("within", EDGES, EDGES), {EDGES: ()}), True)


class SizeTest(unittest.TestCase):
    def test_most_vertices_and_edges(self):
        ten = Graph(5, full(5).edges)
        self.assertIs(holds(ten, CENTRE, {}), True)
        self.assertIs(holds(Graph(6, full(5).edges), CENTRE, {}), False)
        self.assertEqual(len(values_of(Graph(6, full(5).edges), "E")), 1024)
        self.assertEqual(len(values_of(Graph(6, []), "V")), 64)

    def test_too_large(self):
        eleven = Graph(6, list(full(5).edges) + [(0, 5)])
        for graph in (Graph(7, []), path(7), Graph(60, []), eleven, full(6)):
            with self.assertRaises(TooLarge):
                holds(graph, TRUE, {})
            with self.assertRaises(TooLarge):
                satisfying(graph, TRUE, X)
            for sort in SORTS:
                with self.assertRaises(TooLarge):
                    values_of(graph, sort)

    def test_bad_values_come_first(self):
        for graph in (Graph(7, []), full(6)):
            with self.assertRaises(BadValues):
                holds(graph, ("same", X, X), {})
            with self.assertRaises(BadValues):
                holds(graph, TRUE, {X: 9})
            with self.assertRaises(BadValues):
                satisfying(graph, ("same", X, Y), X)
            with self.assertRaises(TooLarge):
                holds(graph, ("same", X, X), {X: 5})


class ValuesTest(unittest.TestCase):
    def test_by_hand(self):
        graph = Graph(3, [(1, 2), (0, 2)])
        self.assertEqual(values_of(graph, "v"), [0, 1, 2])
        self.assertEqual(values_of(graph, "e"), [(0, 2), (1, 2)])
        self.assertEqual(
            values_of(graph, "V"),
            [(), (0,), (1,), (2,), (0, 1), (0, 2), (1, 2), (0, 1, 2)],
        )
        self.assertEqual(
            values_of(graph, "E"), [(), ((0, 2),), ((1, 2),), ((0, 2), (1, 2))],
        )
        self.assertEqual([values_of(Graph(0, []), sort) for sort in SORTS], [[], [], [()], [()]])

    def test_order_of_sets(self):
        for graph in every_graph(4) + [Graph(6, []), full(5)]:
            for sort in ("V", "E"):
                found = values_of(graph, sort)
                self.assertEqual(found, sorted(found, key=lambda value: (len(value), value)))
                members = graph.size if sort == "V" else len(graph.edges)
                self.assertEqual(len(set(found)), 2 ** members)

    def test_values_are_values(self):
        graph = circle(4)
        for sort in SORTS:
            for value in values_of(graph, sort):
                holds(graph, TRUE, {(sort, 0): value})

    def test_lists_are_new(self):
        graph = path(3)
        for sort in SORTS:
            values_of(graph, sort).clear()
            self.assertTrue(values_of(graph, sort))


class SatisfyingTest(unittest.TestCase):
    def test_by_hand(self):
        self.assertEqual(satisfying(path(3), ("all", Y, ("or", ("same", X, Y), ("near", X, Y))), X), [1])
        self.assertEqual(satisfying(path(3), ("some", X, ("ends", E, X)), E), [(0, 1), (1, 2)])
        lonely = ("all", X, ("all", Y, ("or", ("not", ("and", ("in", X, SET), ("in", Y, SET))),
                                        ("not", ("near", X, Y)))))
        self.assertEqual(satisfying(path(3), lonely, SET), [(), (0,), (1,), (2,), (0, 2)])
        one = ("some", E, ("in", E, EDGES))
        self.assertEqual(satisfying(path(3), one, EDGES), [((0, 1),), ((1, 2),), ((0, 1), (1, 2))])

    def test_without_free_variables(self):
        for sort in SORTS:
            for number in (0, 5):
                self.assertEqual(satisfying(path(3), TRUE, (sort, number)), values_of(path(3), sort))
                self.assertEqual(satisfying(path(3), FALSE, (sort, number)), [])
                self.assertEqual(
                    satisfying(path(3), CENTRE, (sort, number)), values_of(path(3), sort),
                )

    def test_another_free_variable(self):
        for formula, variable in (
            (("same", X, Y), X), (("same", X, X), Y), (("in", X, SET), SET),
            (("some", X, ("in", X, SET)), OTHER), (("some", X, ("in", X, SET)), X),
            (("same", X, X), ("e", 0)), (("or", TRUE, ("in", E, EDGES)), E),
        ):
            with self.assertRaises(BadValues):
                satisfying(path(3), formula, variable)

    def test_chosen_formulas(self):
        source = Random(47)
        found = 0
        while found < 150:
            formula = some_formula(source, source.randrange(1, 5))
            variables = free_in(formula)
            if len(variables) != 1:
                continue
            found += 1
            graph = some_graph(source, source.randrange(4))
            world = world_of(graph)
            expected = [
                value for value in world.values(variables[0][0])
                if true_in(world, formula, {variables[0]: value})
            ]
            self.assertEqual(satisfying(graph, formula, variables[0]), expected)


if __name__ == "__main__":
    unittest.main()
