"""Promises [8.1] to [8.7]: all graphs of small width."""

import unittest
from random import Random

from graph_helpers import every_graph
from smallwidth.allgraphs import failing, first_graphs, orders, parting_graph
from smallwidth.apart import difference
from smallwidth.errors import BadValues, BadWidth, TooMany
from smallwidth.formulatext import formula_of
from smallwidth.graph import Graph, same
from smallwidth.known import colourable, connected, independent
from smallwidth.least import all_graphs
from smallwidth.terms import made
from smallwidth.truth import holds
from smallwidth.width import width
from table_helpers import (
    CENTRE, EDGE, FALSE, KERNEL, LONELY, PERFECT, SENTENCES, SET, SOME, TRIANGLE, TRUE, TWO,
    some_sentence,
)

X = ("v", 0)
# Its tables have too many kinds for k = 3.
LARGE = PERFECT
SMALL = [(graph, width(graph)) for size in range(5) for graph in every_graph(size)]


def least_pair(first, second, k):
    """The least size of a graph that tells two sentences apart, of at most 4."""
    pairs = [
        (graph.size, len(graph.edges)) for graph, least in SMALL
        if least <= k and holds(graph, first, {}) != holds(graph, second, {})
    ]
    return min(pairs, default=None)


class PartingTest(unittest.TestCase):
    def check_parting(self, first, second, k):
        graph = parting_graph(first, second, k)
        expected = least_pair(first, second, k)
        found = difference(first, second, k)
        if graph is None:
            self.assertIsNone(expected)
            self.assertIsNone(found)
            return
        self.assertTrue(same(graph, made(found[2], k)[0]))
        self.assertLessEqual(width(graph), k)
        self.assertNotEqual(holds(graph, first, {}), holds(graph, second, {}))
        if expected is None:
            self.assertGreater(graph.size, 4)
        else:
            self.assertEqual((graph.size, len(graph.edges)), expected)

    def check_failing(self, formula, k):
        self.check_parting(formula, TRUE, k)
        graph, expected = failing(formula, k), parting_graph(formula, TRUE, k)
        if graph is None:
            self.assertIsNone(expected)
        else:
            self.assertTrue(same(graph, expected))
            self.assertFalse(holds(graph, formula, {}))

    def test_known_sentences(self):
        for k in (0, 1, 2):
            for formula in SENTENCES:
                self.check_failing(formula, k)
                self.check_failing(("not", formula), k)
        self.check_failing(KERNEL, 1)
        self.check_failing(colourable(3), 1)

    def test_two_sentences(self):
        for k in (0, 1, 2):
            for first in (CENTRE, EDGE, TRIANGLE, connected()):
                for second in (LONELY, TWO, colourable(2), ("not", EDGE)):
                    self.check_parting(first, second, k)

    def test_chosen_sentences(self):
        source = Random(139)
        tried = 0
        while tried < 40:
            formula = some_sentence(source, 3)
            if str(formula).count("some") + str(formula).count("all") < 4:
                tried += 1
                self.check_failing(formula, source.randrange(2))

    def test_larger_graphs(self):
        # The least one is the ring with five vertices.
        graph = parting_graph(TRIANGLE, ("not", colourable(2)), 2)
        self.assertEqual((graph.size, len(graph.edges)), (5, 5))
        self.assertEqual([len(graph.near(v)) for v in range(5)], [2] * 5)
        six = formula_of("some v0 (some v1 (some v2 (!((v0 = v1 | (v0 = v2 | v1 = v2))))))")
        graph = failing(("not", ("and", six, PERFECT)), 1)
        self.assertEqual((graph.size, len(graph.edges)), (4, 2))

    def test_examples(self):
        for k in (0, 1, 2, 3):
            self.assertTrue(same(failing(connected(), k), Graph(2, [])))
        self.assertIsNone(failing(colourable(2), 1))
        self.assertIsNone(failing(colourable(3), 1))
        triangle = Graph(3, [(0, 1), (0, 2), (1, 2)])
        self.assertTrue(same(failing(colourable(2), 2), triangle))
        self.assertIsNone(parting_graph(colourable(2), TRUE, 1))
        self.assertTrue(same(parting_graph(colourable(2), TRUE, 2), triangle))
        self.assertIsNone(failing(("or", EDGE, ("not", EDGE)), 2))
        self.assertTrue(same(failing(SOME, 0), Graph(0, [])))
        self.assertTrue(same(failing(FALSE, 3), Graph(0, [])))

    def test_errors(self):
        open_formula = ("near", X, X)
        told = [
            (BadValues, open_formula, TRUE, 4), (BadWidth, TRUE, open_formula, 4),
            (BadValues, TRUE, open_formula, 0), (BadWidth, SOME, SOME, -1),
            (BadWidth, SOME, SOME, True), (TooMany, LARGE, open_formula, 3),
            (BadValues, independent(SET), LARGE, 3), (TooMany, TRUE, LARGE, 3),
        ]
        for error, first, second, k in told:
            with self.assertRaises(error):
                parting_graph(first, second, k)
        for error, formula, k in (
            (BadValues, open_formula, 9), (BadWidth, SOME, 4), (BadWidth, SOME, None),
            (BadWidth, SOME, False), (TooMany, LARGE, 3), (TooMany, CENTRE, 3),
        ):
            with self.assertRaises(error):
                failing(formula, k)
            with self.assertRaises(error):
                orders(formula, k, 5)


class OrdersTest(unittest.TestCase):
    def test_known_lists(self):
        every = list(range(61))
        told = [
            (TRUE, every), (FALSE, []), (SOME, every[1:]), (TWO, every[2:]), (EDGE, every[2:]),
            (("not", SOME), [0]), (("not", TWO), [0, 1]), (connected(), every),
            (PERFECT, every[::2]), (("and", SOME, ("not", LONELY)), every[2:]),
            (("and", connected(), ("not", EDGE)), [0, 1]), (colourable(1), every),
            (("and", PERFECT, ("and", SOME, connected())), every[2::2]), (CENTRE, every[1:]),
        ]
        for formula, expected in told:
            for most in (0, 1, 2, 7, 60):
                found = [n for n in expected if n <= most]
                self.assertEqual(orders(formula, 1, most), found)
        self.assertEqual(orders(TRIANGLE, 1, 60), [])
        self.assertEqual(orders(TRIANGLE, 2, 60), every[3:])
        self.assertEqual(orders(EDGE, 0, 60), [])
        self.assertEqual(orders(("and", EDGE, ("not", LONELY)), 2, 60), every[2:])

    def test_example(self):
        self.assertEqual(orders(colourable(1), 1, 4), [0, 1, 2, 3, 4])

    def test_small_numbers(self):
        for formula in SENTENCES:
            for k in (0, 1, 2):
                expected = {
                    graph.size for graph, least in SMALL if least <= k and holds(graph, formula, {})
                }
                self.assertEqual(orders(formula, k, 4), sorted(expected))

    def test_every_vertex_in_one_triangle(self):
        three = formula_of(
            "all v0 (some v1 (some v2 (((v0 ~ v1 & v1 ~ v2) & (v0 ~ v2 & "
            "all v3 (((v3 = v1 | v3 = v2) | !(v0 ~ v3))))))))"
        )
        self.assertEqual(orders(three, 2, 20), [0, 3, 6, 9, 12, 15, 18])

    def test_lists_are_new(self):
        orders(TRUE, 0, 5).clear()
        self.assertEqual(orders(TRUE, 0, 5), [0, 1, 2, 3, 4, 5])


class FirstGraphsTest(unittest.TestCase):
    def first_by_looking(self, formula, k):
        return [
            (graph.size, graph.edges) for size in range(5) for graph in all_graphs(size)
            if width(graph) <= k and holds(graph, formula, {})
        ]

    def test_known_sentences(self):
        for formula in SENTENCES + [colourable(3), KERNEL]:
            for k in (0, 1, 2, 3):
                expected = self.first_by_looking(formula, k)
                for count in (0, 1, 3, 50):
                    found = first_graphs(formula, k, count)
                    self.assertEqual([(g.size, g.edges) for g in found], expected[:count])

    def test_all_of_them(self):
        self.assertEqual(len(first_graphs(TRUE, 3, 50)), 19)
        self.assertEqual(len(first_graphs(TRUE, 2, 50)), 18)
        self.assertEqual(len(first_graphs(TRUE, 0, 50)), 5)
        self.assertEqual(first_graphs(FALSE, 3, 50), [])

    def test_errors(self):
        for formula in (("near", X, X), independent(SET)):
            for k in (0, 3, 4, -1, True):
                with self.assertRaises(BadValues):
                    first_graphs(formula, k, 5)
        for k in (-1, 4, 60, True, False, None, "1", 1.0):
            for count in (0, 5):
                with self.assertRaises(BadWidth):
                    first_graphs(TRUE, k, count)


if __name__ == "__main__":
    unittest.main()
