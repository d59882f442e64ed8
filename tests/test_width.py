"""Promises [3.1] to [3.5] and, for orders, [3.14]."""

import random
import unittest
from itertools import combinations, permutations

from graph_helpers import (
    circle, every_graph, every_pair, full, path, picture, pieces_by_merging, some_graph,
)
from smallwidth.bags import fault, width_of
from smallwidth.errors import TooLarge
from smallwidth.graph import Graph, renumbered, together
from smallwidth.least import all_graphs
from smallwidth.width import (
    bags_of_order, components, decomposition, least_order, order_width, width,
)

STAR = Graph(12, [(3, v) if v > 3 else (v, 3) for v in range(12) if v != 3])
TREE = Graph(12, [((v - 1) // 2, v) for v in range(1, 12)])
GRID = Graph(12, [(v, v + 1) for v in range(12) if v % 4 < 3] + [(v, v + 4) for v in range(8)])


def later_neighbours(graph, order, at):
    """The later vertices to which a path leads through earlier ones alone."""
    earlier = order[:at]
    reached = [order[at]]
    found = []
    while reached:
        u = reached.pop()
        for v in range(graph.size):
            if graph.has(u, v) and v not in found and v != order[at]:
                found.append(v)
                if v in earlier:
                    reached.append(v)
    return sorted(v for v in found if v not in earlier)


def width_of_order(graph, order):
    degrees = [len(later_neighbours(graph, order, at)) for at in range(len(order))]
    return max(degrees, default=-1)


def some_orders(source, size):
    """Some orders, chosen at random."""
    found = []
    for _ in range(6):
        order = list(range(size))
        source.shuffle(order)
        found.append(tuple(order))
    return found


class ComponentsTest(unittest.TestCase):
    def test_components(self):
        self.assertEqual(components(circle(6), (1, 4)), [(0, 5), (2, 3)])
        self.assertEqual(components(circle(6), ()), [(0, 1, 2, 3, 4, 5)])
        self.assertEqual(components(circle(6), (0, 1, 2, 3, 4, 5)), [])
        self.assertEqual(components(Graph(0, []), ()), [])
        self.assertEqual(components(Graph(3, []), (1,)), [(0,), (2,)])
        self.assertEqual(components(STAR, (3,)), [(v,) for v in range(12) if v != 3])

    def test_components_of_small_graphs(self):
        for size in range(5):
            for graph in every_graph(size):
                for many in range(size + 1):
                    for gone in combinations(range(size), many):
                        self.assertEqual(components(graph, gone), pieces_by_merging(graph, gone))

    def test_components_of_the_largest_graphs(self):
        self.assertEqual(components(path(60), (30,)), [tuple(range(30)), tuple(range(31, 60))])

    def test_nothing_changes(self):
        graph = circle(6)
        before = picture(graph)
        components(graph, (1, 4)).clear()
        self.assertEqual(components(graph, (1, 4)), [(0, 5), (2, 3)])
        self.assertEqual(picture(graph), before)


class OrderTest(unittest.TestCase):
    def assert_order(self, graph, order):
        self.assertEqual(order_width(graph, order), width_of_order(graph, order))
        bags, parents = bags_of_order(graph, order)
        self.assertIsNone(fault(graph, bags, parents))
        self.assertEqual(width_of(bags), order_width(graph, order))
        self.assertEqual(len(bags), graph.size)
        last = graph.size - 1
        for at, vertex in enumerate(order):
            around = later_neighbours(graph, order, at)
            self.assertEqual(bags[last - at], tuple(sorted([vertex] + around)))
            earliest = min((order.index(v) for v in around), default=last)
            self.assertEqual(parents[last - at], -1 if at == last else last - earliest)

    def test_example(self):
        bags = ((3,), (2, 3), (1, 2, 3), (0, 1, 3))
        self.assertEqual(bags_of_order(circle(4), (0, 1, 2, 3)), (bags, (-1, 0, 1, 2)))
        self.assertEqual(order_width(circle(4), (0, 1, 2, 3)), 2)

    def test_no_vertices(self):
        self.assertEqual(order_width(Graph(0, []), ()), -1)
        self.assertEqual(bags_of_order(Graph(0, []), ()), (((),), (-1,)))

    def test_one_vertex_and_no_edges(self):
        self.assertEqual(order_width(Graph(1, []), (0,)), 0)
        self.assertEqual(bags_of_order(Graph(1, []), (0,)), (((0,),), (-1,)))
        self.assertEqual(bags_of_order(Graph(3, []), (1, 2, 0)), (((0,), (2,), (1,)), (-1, 0, 0)))

    def test_all_orders_of_small_graphs(self):
        for size in range(1, 5):
            for graph in every_graph(size):
                for order in permutations(range(size)):
                    self.assert_order(graph, order)

    def test_orders_of_larger_graphs(self):
        source = random.Random(1)
        for size in (6, 9, 12):
            for _ in range(20):
                graph = some_graph(source, size)
                for order in some_orders(source, size):
                    self.assert_order(graph, order)

    def test_more_than_12_vertices(self):
        order = tuple(range(60))
        self.assertEqual(order_width(circle(60), order), 2)
        self.assertEqual(order_width(full(60), order), 59)
        self.assert_order(path(30), tuple(range(29, -1, -1)))


class WidthTest(unittest.TestCase):
    def assert_width(self, graph, expected):
        order = least_order(graph)
        self.assertEqual(width(graph), expected)
        self.assertEqual(order_width(graph, order), expected)
        self.assertEqual(sorted(order), list(range(graph.size)))
        self.assertIsInstance(order, tuple)
        bags, parents = decomposition(graph)
        self.assertEqual((bags, parents), bags_of_order(graph, order))
        self.assertIsNone(fault(graph, bags, parents))
        self.assertEqual(width_of(bags), expected)

    def test_example(self):
        self.assert_width(circle(4), 2)
        self.assertEqual(least_order(circle(4)), (0, 1, 2, 3))
        bags = ((3,), (2, 3), (1, 2, 3), (0, 1, 3))
        self.assertEqual(decomposition(circle(4)), (bags, (-1, 0, 1, 2)))

    def test_the_least_graphs(self):
        self.assert_width(Graph(0, []), -1)
        self.assertEqual(least_order(Graph(0, [])), ())
        self.assertEqual(decomposition(Graph(0, [])), (((),), (-1,)))
        self.assert_width(Graph(1, []), 0)

    def test_known_widths(self):
        for size in range(1, 13):
            self.assert_width(Graph(size, []), 0)
            self.assert_width(full(size), size - 1)
            self.assert_width(path(size), 1 if size > 1 else 0)
            if size > 2:
                self.assert_width(circle(size), 2)
        self.assert_width(STAR, 1)
        self.assert_width(TREE, 1)
        self.assert_width(GRID, 3)
        self.assert_width(together(circle(5), full(5)), 4)
        for many in (1, 2, 3, 6):
            edges = [(u, v) for u in range(many) for v in range(many, 12)]
            self.assert_width(Graph(12, edges), many)

    def test_all_orders_of_small_graphs(self):
        for size in range(5):
            for graph in every_graph(size):
                self.assert_by_all_orders(graph)
        source = random.Random(2)
        for graph in all_graphs(5):
            for order in some_orders(source, 5)[:2]:
                self.assert_by_all_orders(renumbered(graph, list(order)))

    def assert_by_all_orders(self, graph):
        widths = {order: width_of_order(graph, order) for order in permutations(range(graph.size))}
        least = min(widths.values())
        self.assert_width(graph, least)
        self.assertEqual(least_order(graph), min(o for o in widths if widths[o] == least))

    def test_least_orders_of_larger_graphs(self):
        source = random.Random(3)
        for graph in [some_graph(source, size) for size in (6, 6, 6, 7)]:
            self.assert_by_all_orders(graph)

    def test_the_width_does_not_depend_on_the_numbers(self):
        source = random.Random(4)
        for size in (8, 10, 12):
            graph = some_graph(source, size)
            for order in some_orders(source, size):
                self.assert_width(renumbered(graph, list(order)), width(graph))

    def test_without_an_edge_the_width_is_not_greater(self):
        source = random.Random(5)
        for _ in range(5):
            graph = some_graph(source, 9)
            for edge in graph.edges:
                other = Graph(9, [pair for pair in graph.edges if pair != edge])
                self.assertIn(width(graph) - width(other), (0, 1))

    def test_12_and_13_vertices(self):
        for make in (circle, full, path):
            for question in (width, least_order, decomposition):
                question(make(12))
                with self.assertRaises(TooLarge):
                    question(make(13))
        for question in (width, least_order, decomposition):
            with self.assertRaises(TooLarge):
                question(Graph(13, []))
            with self.assertRaises(TooLarge):
                question(Graph(60, every_pair(60)))

    def test_nothing_changes(self):
        graph = circle(5)
        before = picture(graph)
        order = least_order(graph)
        for found in (width(graph), decomposition(graph), bags_of_order(graph, order)):
            self.assertIsNotNone(found)
        self.assertEqual(picture(graph), before)
        self.assertEqual(order, least_order(graph))


if __name__ == "__main__":
    unittest.main()
