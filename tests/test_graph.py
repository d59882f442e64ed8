"""Promises [0.3] and [1.1] to [1.5]: graphs and what is made of them."""

import unittest
from itertools import permutations

from graph_helpers import (
    circle, every_graph, every_pair, full, path, picture, pieces_by_merging,
)
from smallwidth.errors import BadGraph
from smallwidth.graph import (
    Graph, is_connected, part, pieces, renumbered, same, together, without,
)


class CreationTest(unittest.TestCase):
    def test_size_and_edges(self):
        graph = Graph(4, [(2, 3), (0, 3), (0, 1)])
        self.assertEqual(graph.size, 4)
        self.assertEqual(graph.edges, ((0, 1), (0, 3), (2, 3)))
        self.assertIsInstance(graph.edges, tuple)

    def test_edges_in_any_order(self):
        for edges in permutations(every_pair(3)):
            self.assertEqual(Graph(3, list(edges)).edges, ((0, 1), (0, 2), (1, 2)))

    def test_edges_ascend_as_numbers_do(self):
        graph = Graph(12, [(10, 11), (2, 10), (2, 9), (1, 11)])
        self.assertEqual(graph.edges, ((1, 11), (2, 9), (2, 10), (10, 11)))

    def test_no_vertices(self):
        graph = Graph(0, [])
        self.assertEqual((graph.size, graph.edges), (0, ()))

    def test_most_vertices_and_all_edges(self):
        graph = Graph(60, every_pair(60)[::-1])
        self.assertEqual(graph.size, 60)
        self.assertEqual(graph.edges, tuple(every_pair(60)))
        self.assertEqual(graph.near(59), list(range(59)))
        self.assertEqual(Graph(60, []).edges, ())

    def test_number_of_vertices_out_of_range(self):
        for size in (-1, -60, 61, 1000, 10 ** 6000):
            with self.subTest(size > 0), self.assertRaises(BadGraph):
                Graph(size, [])

    def test_boolean_is_no_number_of_vertices(self):
        for size in (True, False):
            with self.subTest(size), self.assertRaises(BadGraph):
                Graph(size, [])

    def test_member_that_is_no_edge_of_this_graph(self):
        wrong = [
            (1, 0), (0, 0), (2, 2), (0, 3), (3, 4), (-1, 0), (-2, -1),
            (0,), (0, 1, 2), (), 0, None, "01", [0, 1], {0: 1}, (0, "1"),
            ("0", "1"), (None, 1), (0, None), ([0], 1), (0, [1]), (0, (1,)),
            (False, 1), (0, True), (True, 2), (False, True), True,
            (0.0, 1), (0, 1.0), (0, 10 ** 6000), b"01", {0, 1},
        ]
        for member in wrong:
            for edges in ([member], [(0, 1), member], [member, (1, 2)]):
                with self.assertRaises(BadGraph):
                    Graph(3, edges)

    def test_no_edge_without_two_vertices(self):
        for size in (0, 1):
            with self.subTest(size), self.assertRaises(BadGraph):
                Graph(size, [(0, 1)])

    def test_edge_that_occurs_twice(self):
        for edges in ([(0, 1), (0, 1)], [(0, 2), (0, 1), (1, 2), (0, 2)]):
            with self.subTest(edges), self.assertRaises(BadGraph):
                Graph(3, edges)


class NeighboursTest(unittest.TestCase):
    def test_has_in_either_order(self):
        graph = Graph(4, [(0, 1), (1, 3)])
        there = [(0, 1), (1, 0), (1, 3), (3, 1)]
        for u in range(4):
            for v in range(4):
                self.assertIs(graph.has(u, v), (u, v) in there)

    def test_has_in_all_small_graphs(self):
        for graph in every_graph(4):
            for u in range(4):
                for v in range(4):
                    there = (min(u, v), max(u, v)) in graph.edges
                    self.assertIs(graph.has(u, v), there)

    def test_near_ascends(self):
        graph = Graph(5, [(2, 4), (0, 2), (2, 3), (1, 2), (0, 4)])
        self.assertEqual(graph.near(2), [0, 1, 3, 4])
        self.assertEqual(graph.near(0), [2, 4])
        self.assertEqual(graph.near(3), [2])
        self.assertEqual(Graph(5, [(2, 4)]).near(3), [])

    def test_near_in_all_small_graphs(self):
        for graph in every_graph(4):
            for u in range(4):
                found = [v for v in range(4) if graph.has(u, v)]
                self.assertEqual(graph.near(u), found)

    def test_no_such_vertex(self):
        graph = Graph(3, [(0, 1)])
        for wrong in (-1, 3, 60, True, False, None, "0", (0,), [0], 1.0):
            with self.subTest(wrong):
                with self.assertRaises(BadGraph):
                    graph.near(wrong)
                with self.assertRaises(BadGraph):
                    graph.has(wrong, 0)
                with self.assertRaises(BadGraph):
                    graph.has(0, wrong)
                with self.assertRaises(BadGraph):
                    graph.has(wrong, wrong)

    def test_graph_without_vertices_has_none(self):
        with self.assertRaises(BadGraph):
            Graph(0, []).near(0)
        with self.assertRaises(BadGraph):
            Graph(0, []).has(0, 0)


class SameTest(unittest.TestCase):
    def test_same(self):
        self.assertIs(same(Graph(3, [(0, 1), (1, 2)]), Graph(3, [(1, 2), (0, 1)])), True)
        self.assertIs(same(Graph(0, []), Graph(0, [])), True)

    def test_other_edges_or_vertices(self):
        self.assertIs(same(Graph(3, [(0, 1)]), Graph(3, [(0, 2)])), False)
        self.assertIs(same(Graph(3, [(0, 1)]), Graph(3, [])), False)
        self.assertIs(same(Graph(3, [(0, 1)]), Graph(4, [(0, 1)])), False)
        self.assertIs(same(Graph(0, []), Graph(1, [])), False)

    def test_each_graph_is_the_same_as_itself_alone(self):
        graphs = every_graph(3)
        for at, first in enumerate(graphs):
            for other, second in enumerate(graphs):
                self.assertIs(same(first, second), at == other)


class PartTest(unittest.TestCase):
    def test_part_keeps_the_edges_between_the_vertices(self):
        graph = Graph(5, [(0, 1), (1, 2), (2, 3), (3, 4), (0, 4)])
        found = part(graph, [4, 1, 0])
        self.assertEqual((found.size, found.edges), (3, ((0, 2), (1, 2))))

    def test_part_of_all_small_graphs(self):
        for graph in every_graph(4):
            for many in range(5):
                for vertices in permutations(range(4), many):
                    found = part(graph, list(vertices))
                    self.assertEqual(found.size, many)
                    for i in range(many):
                        for j in range(many):
                            there = graph.has(vertices[i], vertices[j])
                            self.assertIs(found.has(i, j), there)

    def test_part_without_vertices(self):
        self.assertTrue(same(part(circle(4), []), Graph(0, [])))
        self.assertTrue(same(part(Graph(0, []), []), Graph(0, [])))

    def test_part_of_the_largest_graph(self):
        found = part(full(60), list(range(59, -1, -1)))
        self.assertTrue(same(found, full(60)))

    def test_vertex_that_is_none(self):
        for wrong in (-1, 3, None, True, False, "0", (0,), [0], 1.0):
            for vertices in ([wrong], [2, wrong], [wrong, 2]):
                with self.subTest(vertices), self.assertRaises(BadGraph):
                    part(path(3), vertices)

    def test_vertex_that_occurs_twice(self):
        for vertices in ([0, 0], [0, 1, 0], [2, 1, 1], [0, 1, 2, 0]):
            with self.subTest(vertices), self.assertRaises(BadGraph):
                part(path(3), vertices)


class RenumberedTest(unittest.TestCase):
    def test_renumbered(self):
        found = renumbered(Graph(3, [(0, 1), (1, 2)]), [1, 2, 0])
        self.assertEqual((found.size, found.edges), (3, ((0, 1), (0, 2))))

    def test_renumbered_is_part_for_all_vertices(self):
        for graph in every_graph(4):
            for order in permutations(range(4)):
                found = renumbered(graph, list(order))
                self.assertTrue(same(found, part(graph, list(order))))

    def test_renumbered_without_vertices(self):
        self.assertTrue(same(renumbered(Graph(0, []), []), Graph(0, [])))

    def test_list_that_is_not_one_of_all_vertices(self):
        wrong = [
            [], [0], [0, 1], [0, 1, 2, 2], [0, 1, 2, 3], [0, 0, 1], [1, 2, 3],
            [-1, 0, 1], [0, True, 2], [False, 1, 2], [0, 1, None],
        ]
        for order in wrong:
            with self.subTest(order), self.assertRaises(BadGraph):
                renumbered(path(3), order)
        with self.assertRaises(BadGraph):
            renumbered(Graph(0, []), [0])


class WithoutTest(unittest.TestCase):
    def test_without(self):
        found = without(Graph(4, [(0, 1), (1, 2), (2, 3)]), (1, 2))
        self.assertEqual((found.size, found.edges), (4, ((0, 1), (2, 3))))

    def test_without_each_edge(self):
        graph = full(5)
        for edge in graph.edges:
            left = tuple(other for other in graph.edges if other != edge)
            self.assertEqual(without(graph, edge).edges, left)

    def test_edge_that_is_not_there(self):
        graph = Graph(3, [(0, 1), (1, 2)])
        wrong = [
            (0, 2), (1, 0), (2, 1), (0, 0), (1, 3), (-1, 0), (0,), (),
            (0, 1, 2), [0, 1], None, 0, (False, 1), (0, True), (True, 2),
            (False, True), "01", (0.0, 1),
        ]
        for edge in wrong:
            with self.subTest(edge), self.assertRaises(BadGraph):
                without(graph, edge)
        with self.assertRaises(BadGraph):
            without(Graph(0, []), (0, 1))


class TogetherTest(unittest.TestCase):
    def test_together(self):
        found = together(Graph(3, [(0, 2)]), Graph(2, [(0, 1)]))
        self.assertEqual((found.size, found.edges), (5, ((0, 2), (3, 4))))

    def test_the_first_one_keeps_its_numbers(self):
        found = together(Graph(2, [(0, 1)]), Graph(3, [(0, 2)]))
        self.assertEqual((found.size, found.edges), (5, ((0, 1), (2, 4))))

    def test_together_with_no_vertices(self):
        for graph in every_graph(3):
            self.assertTrue(same(together(graph, Graph(0, [])), graph))
            self.assertTrue(same(together(Graph(0, []), graph), graph))

    def test_parts_of_both_together(self):
        for first in every_graph(3):
            for second in every_graph(3):
                both = together(first, second)
                self.assertTrue(same(part(both, [0, 1, 2]), first))
                self.assertTrue(same(part(both, [3, 4, 5]), second))
                self.assertEqual(len(both.edges), len(first.edges) + len(second.edges))

    def test_up_to_60_vertices(self):
        self.assertEqual(together(path(30), path(30)).size, 60)

    def test_a_graph_with_more_than_60_vertices_is_none(self):
        with self.assertRaises(BadGraph):
            together(path(30), path(31))


class PiecesTest(unittest.TestCase):
    def test_pieces(self):
        graph = Graph(7, [(2, 5), (1, 6), (0, 6), (3, 5)])
        self.assertEqual(pieces(graph), [[0, 1, 6], [2, 3, 5], [4]])

    def test_edges_of_graphs(self):
        self.assertEqual(pieces(Graph(0, [])), [])
        self.assertEqual(pieces(Graph(3, [])), [[0], [1], [2]])
        self.assertEqual(pieces(full(60)), [list(range(60))])
        self.assertEqual(pieces(path(60)), [list(range(60))])

    def test_pieces_of_all_small_graphs(self):
        for graph in every_graph(5):
            self.assertEqual(pieces(graph), [list(piece) for piece in pieces_by_merging(graph)])

    def test_is_connected(self):
        self.assertIs(is_connected(Graph(0, [])), True)
        self.assertIs(is_connected(Graph(1, [])), True)
        self.assertIs(is_connected(Graph(2, [])), False)
        self.assertIs(is_connected(path(60)), True)
        self.assertIs(is_connected(together(path(2), path(3))), False)
        self.assertIs(is_connected(without(circle(5), (0, 4))), True)
        self.assertIs(is_connected(without(path(5), (1, 2))), False)

    def test_number_of_connected_graphs(self):
        for size, many in ((0, 1), (1, 1), (2, 1), (3, 4), (4, 38), (5, 728)):
            found = [graph for graph in every_graph(size) if is_connected(graph)]
            self.assertEqual(len(found), many)


class NothingChangesTest(unittest.TestCase):
    """[0.3]: arguments stay as they were, and what is returned is new."""

    def test_list_that_was_handed_in(self):
        edges = [(1, 2), (0, 1)]
        graph = Graph(3, edges)
        before = picture(graph)
        self.assertEqual(edges, [(1, 2), (0, 1)])
        edges.append((0, 2))
        edges.reverse()
        self.assertEqual(picture(graph), before)
        edges.clear()
        self.assertEqual(picture(graph), before)

    def test_lists_that_came_back(self):
        graph = Graph(4, [(0, 1), (1, 2)])
        before = picture(graph)
        graph.near(1).append(3)
        graph.near(1).clear()
        found = pieces(graph)
        found[0].append(3)
        found.clear()
        self.assertEqual(picture(graph), before)
        self.assertEqual(pieces(graph), [[0, 1, 2], [3]])

    def test_arguments_stay_as_they_were(self):
        graph = Graph(4, [(1, 2), (0, 1)])
        other = Graph(3, [(0, 2)])
        before = picture(graph), picture(other)
        vertices = [3, 1, 0]
        order = [3, 1, 0, 2]
        same(graph, other)
        part(graph, vertices)
        renumbered(graph, order)
        without(graph, (0, 1))
        together(graph, other)
        pieces(graph)
        is_connected(graph)
        self.assertEqual((picture(graph), picture(other)), before)
        self.assertEqual((vertices, order), ([3, 1, 0], [3, 1, 0, 2]))

    def test_lists_handed_to_part_and_renumbered(self):
        vertices = [2, 0, 1]
        first = part(path(3), vertices)
        second = renumbered(path(3), vertices)
        before = picture(first), picture(second)
        vertices.reverse()
        vertices.clear()
        self.assertEqual((picture(first), picture(second)), before)

    def test_what_is_returned_is_new(self):
        graph = path(3)
        empty = Graph(0, [])
        for found in (
            part(graph, [0, 1, 2]), renumbered(graph, [0, 1, 2]),
            together(graph, empty), together(empty, graph),
        ):
            self.assertTrue(same(found, graph))
            self.assertIsNot(found, graph)
        self.assertIsNot(graph.near(1), graph.near(1))


if __name__ == "__main__":
    unittest.main()
