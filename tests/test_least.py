"""Promises [1.6], [1.7] and, for least forms, [1.9]."""

import unittest
from itertools import combinations, permutations

from graph_helpers import (
    circle, every_graph, every_pair, full, least_by_trying, path, picture,
)
from smallwidth.errors import TooLarge
from smallwidth.graph import Graph, renumbered, same, together
from smallwidth.least import all_graphs, least_form


def orders_of(size):
    """Some orders of the vertices: turned round, and with a stride."""
    found = []
    for start in range(size):
        order = [(start + v) % size for v in range(size)]
        found.append(order)
        found.append(order[::-1])
        found.append(order[::2] + order[1::2])
    return found


class LeastFormTest(unittest.TestCase):
    def test_example(self):
        path_of_three = Graph(3, [(1, 2), (0, 1)])
        found = least_form(path_of_three)
        self.assertEqual((found.size, found.edges), (3, ((0, 1), (0, 2))))

    def test_known_forms(self):
        cases = [
            (Graph(0, []), ()),
            (Graph(1, []), ()),
            (Graph(7, []), ()),
            (Graph(7, [(5, 6)]), ((0, 1),)),
            (Graph(4, [(0, 3), (1, 2)]), ((0, 1), (2, 3))),
            (path(4), ((0, 1), (0, 2), (1, 3))),
            (circle(4), ((0, 1), (0, 2), (1, 3), (2, 3))),
            (Graph(4, [(0, 3), (1, 3), (2, 3)]), ((0, 1), (0, 2), (0, 3))),
            (full(7), tuple(every_pair(7))),
        ]
        for graph, edges in cases:
            with self.subTest(edges):
                found = least_form(graph)
                self.assertEqual((found.size, found.edges), (graph.size, edges))

    def test_all_graphs_up_to_5_vertices_against_all_renumberings(self):
        for size in range(6):
            for graph in every_graph(size):
                found = least_form(graph)
                self.assertEqual(found.size, size)
                self.assertEqual(found.edges, least_by_trying(graph))

    def test_some_larger_graphs_against_all_renumberings(self):
        graphs = [
            path(6), circle(6), together(circle(3), circle(3)),
            together(path(4), path(2)),
            Graph(6, [(0, 3), (0, 4), (0, 5), (1, 3), (1, 4), (2, 5)]),
            Graph(6, [(0, 1), (1, 2), (2, 3), (3, 4), (4, 5), (0, 5), (1, 4)]),
            path(7), circle(7), together(circle(4), path(3)),
            Graph(7, [(0, 6), (1, 6), (2, 6), (2, 5), (3, 5), (4, 5)]),
            Graph(7, [(u, v) for u in range(3) for v in range(3, 7)]),
            Graph(7, [pair for pair in every_pair(7) if sum(pair) % 3]),
        ]
        for graph in graphs:
            with self.subTest(graph.edges):
                self.assertEqual(least_form(graph).edges, least_by_trying(graph))

    def test_the_same_for_every_renumbering(self):
        for size in range(5):
            for graph in every_graph(size):
                found = least_form(graph)
                for order in permutations(range(size)):
                    other = renumbered(graph, list(order))
                    self.assertTrue(same(least_form(other), found))

    def test_the_same_for_renumberings_of_seven_vertices(self):
        for chosen in combinations(every_pair(7), 2):
            edges = sorted(set(path(7).edges + chosen))
            graph = Graph(7, edges)
            found = least_form(graph)
            for order in orders_of(7):
                other = renumbered(graph, order)
                self.assertTrue(same(least_form(other), found))

    def test_a_least_form_is_its_own(self):
        for graph in all_graphs(5):
            self.assertTrue(same(least_form(graph), graph))

    def test_more_than_7_vertices(self):
        for graph in (Graph(8, []), path(8), full(8), Graph(60, [])):
            with self.subTest(graph.size), self.assertRaises(TooLarge):
                least_form(graph)

    def test_nothing_changes(self):
        graph = Graph(3, [(1, 2), (0, 1)])
        before = picture(graph)
        least_form(graph)
        self.assertEqual(picture(graph), before)
        form = Graph(3, [(0, 1), (0, 2)])
        self.assertIsNot(least_form(form), form)


class AllGraphsTest(unittest.TestCase):
    def test_how_many(self):
        many = [len(all_graphs(size)) for size in range(6)]
        self.assertEqual(many, [1, 1, 2, 4, 11, 34])

    def test_graphs_with_up_to_3_vertices(self):
        expected = [
            [()],
            [()],
            [(), ((0, 1),)],
            [(), ((0, 1),), ((0, 1), (0, 2)), ((0, 1), (0, 2), (1, 2))],
        ]
        for size, edges in enumerate(expected):
            found = all_graphs(size)
            self.assertEqual([graph.edges for graph in found], edges)
            self.assertEqual([graph.size for graph in found], [size] * len(edges))

    def test_against_the_definition(self):
        for size in range(6):
            forms = {least_by_trying(graph) for graph in every_graph(size)}
            ordered = sorted(forms, key=lambda edges: (len(edges), edges))
            found = all_graphs(size)
            self.assertEqual([graph.edges for graph in found], ordered)
            self.assertTrue(all(graph.size == size for graph in found))

    def test_somewhat_beyond_the_limits_raises_no_error(self):
        self.assertEqual(all_graphs(-1), [])
        self.assertEqual(len(all_graphs(6)), 156)

    def test_what_came_back_is_new(self):
        found = all_graphs(3)
        before = [picture(graph) for graph in found]
        found[1].near(0).clear()
        found.clear()
        again = all_graphs(3)
        self.assertEqual([picture(graph) for graph in again], before)
        self.assertIsNot(all_graphs(3)[0], again[0])


if __name__ == "__main__":
    unittest.main()
