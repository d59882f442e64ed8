"""Promises [7.1] to [7.8]: answers on a graph with a decomposition."""

import copy
import unittest
from functools import lru_cache
from itertools import combinations
from random import Random
from unittest import mock

from graph_helpers import circle, every_graph, full, path, some_graph
from smallwidth import gathering
from smallwidth.answers import answer, best, count, sizes
from smallwidth.bags import fault, term_of, width_of
from smallwidth.errors import BadBags, BadValues, TooMany
from smallwidth.formula import free
from smallwidth.formulatext import formula_of, formula_text
from smallwidth.graph import Graph
from smallwidth.graphtext import graph_of, graph_text
from smallwidth.known import closed, colourable, connected, dominating, independent, matching
from smallwidth.truth import holds, satisfying
from smallwidth.width import bags_of_order, decomposition
from state_helpers import every_choice, some_formula, true_in, world_of
from table_helpers import CENTRE, EDGES, FALSE, KERNEL, PERFECT, SET, SOME, TRIANGLE, TRUE, TWO
from term_helpers import STRANGE
from ways_helpers import ways_of

X, Y, Z = ("v", 0), ("v", 1), ("v", 2)
E, OTHER = ("e", 0), ("V", 1)
PATH = Graph(3, [(0, 1), (1, 2)])
TREE = (((0, 1), (1, 2)), (-1, 0))
SENTENCES = [
    TRUE, FALSE, CENTRE, SOME, TWO, TRIANGLE, KERNEL, PERFECT, connected(), colourable(1),
    colourable(2), colourable(3),
]
ONE_SET = [
    independent(SET), dominating(SET), closed(SET), matching(EDGES), ("not", independent(SET)),
    ("and", independent(SET), dominating(SET)), ("some", X, ("in", X, SET)),
]


def some_bags(source, graph):
    """A decomposition of a graph, chosen at random, some bags standing twice."""
    order = source.sample(range(graph.size), graph.size)
    bags, parents = bags_of_order(graph, tuple(order))
    bags, parents = list(bags), list(parents)
    for _ in range(source.randrange(4)):
        at = source.randrange(len(bags))
        kept = bags[at]
        if source.random() < 0.5:
            kept = tuple(v for v in kept if source.random() < 0.7)
        bags.append(kept)
        parents.append(at)
    while source.random() < 0.3:
        # What stood on top now stands below a part of itself.
        top = tuple(v for v in bags[0] if source.random() < 0.7)
        bags = [top] + bags
        parents = [-1] + [parent + 1 for parent in parents]
    return tuple(bags), tuple(parents)


def several_bags(source, graph):
    whole = (tuple(range(graph.size)),)
    return [(whole, (-1,)), decomposition(graph)] + [some_bags(source, graph) for _ in range(3)]


def long_path(many):
    graph = path(many)
    return graph, (graph.edges, tuple(range(-1, many - 2)))


def long_ring(many):
    bags = tuple((0, v, v + 1) for v in range(1, many - 1))
    return circle(many), (bags, tuple(range(-1, many - 3)))


def even_tree(many):
    """The tree in which the vertices below v are 2v + 1 and 2v + 2."""
    edges = tuple(((v - 1) // 2, v) for v in range(1, many))
    parents = tuple(-1 if v == 1 else max((v - 1) // 2 - 1, 0) for v in range(1, many))
    return Graph(many, list(edges)), (edges, parents)


def independent_by_size(many):
    """The independent sets of the tree above by size, from below."""
    def product_of(a, b):
        found = [0] * (len(a) + len(b) - 1)
        for i, x in enumerate(a):
            for j, y in enumerate(b):
                found[i + j] += x * y
        return found

    def sum_of(a, b):
        return [sum(pair) for pair in zip(a + [0] * len(b), b + [0] * len(a))]

    @lru_cache(None)
    def below(v):
        inside, outside = [0, 1], [1]
        for child in (2 * v + 1, 2 * v + 2):
            if child < many:
                with_child, without_child = below(child)
                inside = product_of(inside, without_child)
                outside = product_of(outside, sum_of(with_child, without_child))
        return inside, outside

    found = sum_of(*below(0))
    return (found + [0] * many)[:many + 1]


def matchings_of_tree(many):
    """The number of matchings of the tree above, from below."""
    def below(v):
        # Those that leave v free, and those in which v has an edge below it.
        free_ones, others = 1, 0
        for child in (2 * v + 1, 2 * v + 2):
            if child < many:
                free_child, other_child = below(child)
                total = free_child + other_child
                others = others * total + free_ones * free_child
                free_ones *= total
        return free_ones, others

    return sum(below(0))


def lucas(many):
    """The number of independent sets, and of matchings, of a ring."""
    a, b = 2, 1
    for _ in range(many):
        a, b = b, a + b
    return a


def fibonacci(many):
    a, b = 0, 1
    for _ in range(many):
        a, b = b, a + b
    return a


class SentencesTest(unittest.TestCase):
    def test_small_graphs(self):
        source = Random(101)
        for size in range(5):
            for graph in every_graph(size)[::1 if size < 4 else 5]:
                for tree in several_bags(source, graph)[:4]:
                    formula = source.choice(SENTENCES)
                    expected = holds(graph, formula, {})
                    self.assertIs(answer(graph, tree, formula), expected)
                    self.assertEqual(count(graph, tree, formula), 1 if expected else 0)

    def test_every_sentence(self):
        source = Random(103)
        for formula in SENTENCES:
            for graph in (Graph(0, []), Graph(1, []), PATH, circle(4), circle(5), full(4),
                          Graph(5, [(0, 3), (1, 4)])):
                expected = holds(graph, formula, {})
                for tree in several_bags(source, graph):
                    self.assertIs(answer(graph, tree, formula), expected)


class CountTest(unittest.TestCase):
    def test_chosen_formulas(self):
        source = Random(107)
        tried = 0
        while tried < 200:
            formula = some_formula(source, source.randrange(1, 5))
            graph = some_graph(source, source.randrange(5))
            if len(graph.edges) > 4 or len(free(formula)) > 3:
                continue
            world = world_of(graph)
            choices = every_choice(world, free(formula))
            if len(choices) > 600 or str(formula).count("some") + str(formula).count("all") > 3:
                continue
            tried += 1
            expected = sum(true_in(world, formula, values) for values in choices)
            for tree in several_bags(source, graph)[1:4]:
                self.assertEqual(count(graph, tree, formula), expected)

    def test_several_free_variables(self):
        source = Random(109)
        formulas = [
            ("near", X, Y), ("ends", E, X), ("same", X, X), ("within", SET, OTHER),
            ("and", ("near", X, Y), ("near", Y, Z)), ("or", ("in", X, SET), ("same", X, Y)),
            ("and", ("ends", E, X), ("in", E, EDGES)), ("and", ("in", X, SET), ("in", X, OTHER)),
        ]
        for graph in (PATH, circle(4), Graph(4, [(0, 1), (2, 3)]), Graph(0, []), Graph(2, [])):
            world = world_of(graph)
            for formula in formulas:
                choices = every_choice(world, free(formula))
                expected = sum(true_in(world, formula, values) for values in choices)
                for tree in several_bags(source, graph):
                    self.assertEqual(count(graph, tree, formula), expected)

    def test_by_hand(self):
        self.assertEqual(count(PATH, TREE, ("near", X, Y)), 4)
        self.assertEqual(count(PATH, TREE, ("same", X, Y)), 3)
        self.assertEqual(count(PATH, TREE, ("not", ("in", X, SET))), 12)
        self.assertEqual(count(PATH, TREE, ("in", E, EDGES)), 4)
        self.assertEqual(count(PATH, TREE, ("within", SET, SET)), 8)


class SizesTest(unittest.TestCase):
    def check_sets(self, graph, tree, formula):
        variable = free(formula)[0]
        sets = satisfying(graph, formula, variable)
        members = graph.size if variable[0] == "V" else len(graph.edges)
        numbers = [sum(len(value) == size for value in sets) for size in range(members + 1)]
        self.assertEqual(sizes(graph, tree, formula), numbers)
        self.assertEqual(count(graph, tree, formula), len(sets))
        # The list of sets is ascending by size, and then by the tuples.
        least = (len(sets[0]), sets[0]) if sets else None
        greatest = None
        if sets:
            most = max(len(value) for value in sets)
            greatest = (most, [value for value in sets if len(value) == most][0])
        self.assertEqual(best(graph, tree, formula, False), least)
        self.assertEqual(best(graph, tree, formula, True), greatest)

    def test_example(self):
        formula = independent(SET)
        self.assertEqual(count(PATH, TREE, formula), 5)
        self.assertEqual(sizes(PATH, TREE, formula), [1, 3, 1, 0])
        self.assertEqual(best(PATH, TREE, formula, True), (2, (0, 2)))
        self.assertEqual(best(PATH, TREE, formula, False), (0, ()))

    def test_small_graphs(self):
        source = Random(113)
        graphs = [graph for size in range(5) for graph in every_graph(size)]
        for graph in graphs[::3] + [Graph(0, []), Graph(1, []), circle(5), path(6)]:
            for formula in ONE_SET:
                for tree in several_bags(source, graph)[1:3]:
                    self.check_sets(graph, tree, formula)

    def test_chosen_formulas(self):
        source = Random(127)
        tried = 0
        while tried < 150:
            formula = some_formula(source, source.randrange(1, 5))
            graph = some_graph(source, source.randrange(5))
            sorts = [sort for sort, _ in free(formula)]
            if sorts in (["V"], ["E"]) and len(graph.edges) <= 5:
                if str(formula).count("some") + str(formula).count("all") <= 3:
                    tried += 1
                    for tree in several_bags(source, graph)[1:4]:
                        self.check_sets(graph, tree, formula)

    def test_without_any_set(self):
        never = ("and", FALSE, ("within", SET, SET))
        self.assertEqual(sizes(PATH, TREE, never), [0, 0, 0, 0])
        self.assertIsNone(best(PATH, TREE, never, True))
        self.assertIsNone(best(PATH, TREE, never, False))
        edges = ("and", FALSE, ("within", EDGES, EDGES))
        self.assertEqual(sizes(PATH, TREE, edges), [0, 0, 0])
        self.assertIsNone(best(PATH, TREE, edges, True))

    def test_first_set_of_the_best_size(self):
        source = Random(131)
        for many in (5, 6):
            for _ in range(8):
                graph = Graph(many, source.sample(list(combinations(range(many), 2)), 6))
                for tree in several_bags(source, graph)[1:4]:
                    self.check_sets(graph, tree, independent(SET))
                    self.check_sets(graph, tree, matching(EDGES))
                    self.check_sets(graph, tree, dominating(SET))


class LongTest(unittest.TestCase):
    def test_paths_and_rings(self):
        for many in (59, 60):
            graph, tree = long_path(many)
            self.assertEqual(count(graph, tree, independent(SET)), fibonacci(many + 2))
            self.assertEqual(count(graph, tree, matching(EDGES)), fibonacci(many + 1))
            self.assertEqual(best(graph, tree, matching(EDGES), True)[0], many // 2)
            graph, tree = long_ring(many)
            self.assertEqual(count(graph, tree, independent(SET)), lucas(many))
            self.assertEqual(count(graph, tree, matching(EDGES)), lucas(many))
            even = tuple(range(0, many - 1, 2))
            self.assertEqual(best(graph, tree, independent(SET), True), (len(even), even))
            self.assertIs(answer(graph, tree, colourable(2)), many == 60)
            self.assertIs(answer(graph, tree, connected()), True)
            self.assertEqual(best(graph, tree, dominating(SET), False)[0], 20)

    def test_trees(self):
        for many in (31, 60):
            graph, tree = even_tree(many)
            self.assertIsNone(fault(graph, *tree))
            numbers = independent_by_size(many)
            self.assertEqual(sizes(graph, tree, independent(SET)), numbers)
            self.assertEqual(count(graph, tree, independent(SET)), sum(numbers))
            self.assertEqual(count(graph, tree, matching(EDGES)), matchings_of_tree(many))
            greatest = max(size for size, number in enumerate(numbers) if number)
            size, members = best(graph, tree, independent(SET), True)
            self.assertEqual(size, greatest)
            self.assertEqual(len(members), greatest)
            self.assertFalse(any(u in members and v in members for u, v in graph.edges))
            self.assertIs(answer(graph, tree, colourable(2)), True)
            self.assertIs(answer(graph, tree, TRIANGLE), False)

    def test_no_edges(self):
        graph = Graph(60, [])
        tree = (tuple((v,) for v in range(60)), tuple(range(-1, 59)))
        self.assertEqual(count(graph, tree, ("within", SET, SET)), 2 ** 60)
        self.assertEqual(count(graph, tree, ("within", SET, OTHER)), 3 ** 60)
        self.assertEqual(best(graph, tree, dominating(SET), False), (60, tuple(range(60))))


class ErrorsTest(unittest.TestCase):
    def check_error(self, error, graph, tree, formula):
        for ask in (answer, count, sizes):
            with self.assertRaises(error):
                ask(graph, tree, formula)
        for greatest in (True, False):
            with self.assertRaises(error):
                best(graph, tree, formula, greatest)

    def test_bad_bags_come_first(self):
        four = ("and", ("near", X, Y), ("and", ("near", Y, Z), ("in", X, SET)))
        wrong = [
            (((0, 1),), (-1,)), (((0, 1), (1, 2)), (-1,)), (((0, 1), (2,)), (-1, 0)),
            (((0, 1), (1, 2)), (-1, 1)), (((0, 1), (1, 2)), (0, 0)), (((1, 0), (1, 2)), (-1, 0)),
            ([(0, 1), (1, 2)], (-1, 0)), (((0, 1), (1, 2)), [-1, 0]), ((), ()),
            (((0, 1), (), (1, 2)), (-1, 0, 1)), (((0, 1, 2, 3),), (-1,)), (((0, True, 2),), (-1,)),
            (((0, 1), (1, 2)), (-1, False)),
        ]
        for tree in wrong + [(value, (-1,)) for value in STRANGE] + [((), v) for v in STRANGE]:
            self.check_error(BadBags, PATH, tree, four)
            self.check_error(BadBags, PATH, tree, independent(SET))
        for value in STRANGE + [TREE[0], TREE + ((),), (TREE,)]:
            self.check_error(BadBags, PATH, value, four)

    def test_bad_values(self):
        with self.assertRaises(BadValues):
            answer(PATH, TREE, independent(SET))
        with self.assertRaises(BadValues):
            answer(PATH, TREE, ("same", X, X))
        three = ("and", ("near", X, Y), ("in", X, SET))
        count(PATH, TREE, three)
        for more in (Z, E, OTHER, EDGES):
            other = ("same", more, more) if more in (Z, E) else ("within", more, more)
            with self.assertRaises(BadValues):
                count(PATH, TREE, ("and", three, other))
        for formula in (
            SOME, ("same", X, X), ("ends", E, X), ("within", SET, OTHER), ("in", X, SET),
            ("in", E, EDGES), ("same", E, E), ("and", independent(SET), matching(EDGES)),
        ):
            with self.assertRaises(BadValues):
                sizes(PATH, TREE, formula)
            for greatest in (True, False):
                with self.assertRaises(BadValues):
                    best(PATH, TREE, formula, greatest)

    def test_too_many_full_states(self):
        # The sets of sources have marks of their own.
        self.assertEqual(gathering.MOST_FULL_STATES, 4000)
        for many in (11, 12):
            graph = Graph(many, [])
            tree = ((tuple(range(many)),), (-1,))
            for function in (count, sizes, lambda *told: best(*told, True)):
                if many == 11:
                    function(graph, tree, ("within", SET, SET))
                else:
                    with self.assertRaises(TooMany):
                        function(graph, tree, ("within", SET, SET))

    def test_most_full_states(self):
        for formula, graph in ((independent(SET), full(3)), (matching(EDGES), circle(4)),
                               (("and", ("near", X, Y), ("in", X, SET)), PATH)):
            tree = decomposition(graph)
            term, _ = term_of(graph, *tree, max(width_of(tree[0]), 0))
            many = max(len(ways) for ways in ways_of(formula, term))
            found = count(graph, tree, formula)
            with mock.patch.object(gathering, "MOST_FULL_STATES", many):
                self.assertEqual(count(graph, tree, formula), found)
            with mock.patch.object(gathering, "MOST_FULL_STATES", many - 1):
                with self.assertRaises(TooMany):
                    count(graph, tree, formula)

    def test_too_many_pairs(self):
        graph = Graph(12, [])
        tree = ((tuple(range(12)),), (-1,))
        with self.assertRaises(TooMany):
            answer(graph, tree, ("some", SET, ("within", SET, SET)))
        with self.assertRaises(BadValues):
            answer(graph, tree, ("within", SET, SET))

    def test_arguments_stay_as_they_are(self):
        graph, tree = long_path(6)
        before = copy.deepcopy(tree)
        formula = independent(SET)
        found = sizes(graph, tree, formula)
        found.clear()
        self.assertEqual(sizes(graph, tree, formula), [1, 6, 10, 4, 0, 0, 0])
        self.assertEqual(tree, before)
        self.assertEqual(graph.edges, path(6).edges)


class WholeWayTest(unittest.TestCase):
    def test_from_texts_to_answers(self):
        source = Random(137)
        for _ in range(60):
            graph = some_graph(source, source.randrange(6))
            formula = source.choice(SENTENCES[2:-1])
            if len(graph.edges) > 7:
                continue
            again = graph_of(graph_text(graph))
            found = answer(again, decomposition(again), formula_of(formula_text(formula)))
            self.assertIs(found, holds(graph, formula, {}))


if __name__ == "__main__":
    unittest.main()
