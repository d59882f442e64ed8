"""Promises [6.8] to [6.11]: least graphs, and what tells sentences apart."""

import unittest
from random import Random
from unittest import mock

from graph_helpers import every_graph
from smallwidth import apart
from smallwidth.apart import alike, difference, least_of
from smallwidth.errors import BadValues, BadWidth, TooMany
from smallwidth.known import colourable, connected, independent
from smallwidth.tables import Table
from smallwidth.terms import check_term, made
from smallwidth.truth import holds
from smallwidth.width import width
from table_helpers import (
    CENTRE, EDGE, FALSE, KERNEL, LONELY, PERFECT, SENTENCES, SET, SOME, TRIANGLE, TRUE, TWO,
    some_sentence, steps_in_order,
)
from term_helpers import EMPTY

X = ("v", 0)
NO_TABLE = ("some", X, ("near", X, ("v", 1)))
# Its tables have too many kinds for k = 3.
LARGE = PERFECT


def sizes_of_classes(table, most):
    """For each class the pairs (vertices, edges) of its terms, up to a number.

    This takes all steps and joins again and again until nothing new comes.
    """
    found = {(table.of((EMPTY,)), 0, 0)}
    waiting = list(found)
    while waiting:
        c, vertices, edges = waiting.pop()
        reached = [
            (table.after(c, step), vertices + (step[0] == "new"), edges + (step[0] == "edge"))
            for step in steps_in_order(table.k)
        ]
        for d, more, others in found:
            common = len(table.frame(c)[0])
            reached.append((table.both(c, d), vertices + more - common, edges + others))
        for one in reached:
            if one[0] is not None and one[1] <= most and one not in found:
                found.add(one)
                waiting.append(one)
    return found


def least_pair(first, second, k, most):
    """The least (vertices, edges) of a graph that tells sentences apart."""
    pairs = [
        (graph.size, len(graph.edges)) for size in range(most + 1) for graph in every_graph(size)
        if width(graph) <= k and holds(graph, first, {}) != holds(graph, second, {})
    ]
    return min(pairs, default=None)


class LeastTest(unittest.TestCase):
    def check_least(self, formula, k, most):
        table = Table(formula, k)
        least = least_of(table)
        self.assertEqual(len(least), table.size)
        sizes = sizes_of_classes(table, most)
        for c, (vertices, edges, term) in enumerate(least):
            self.assertEqual(table.of(term), c)
            graph, _ = made(term, k)
            self.assertEqual((graph.size, len(graph.edges)), (vertices, edges))
            found = [size[1:] for size in sizes if size[0] == c]
            if found:
                self.assertEqual(min(found), (vertices, edges))
            else:
                self.assertGreater(vertices, most)

    def test_known_sentences(self):
        for formula in SENTENCES:
            self.check_least(formula, 0, 4)
            self.check_least(formula, 1, 4)

    def test_two_and_three(self):
        for formula in (SOME, EDGE, connected(), colourable(1)):
            self.check_least(formula, 2, 3)
        self.check_least(SOME, 3, 2)

    def test_large_classes(self):
        for formula, k in ((PERFECT, 2), (colourable(2), 3), (connected(), 3)):
            table = Table(formula, k)
            for c, (vertices, edges, term) in enumerate(least_of(table)):
                self.assertEqual(table.of(term), c)
                graph, _ = made(term, k)
                self.assertEqual((graph.size, len(graph.edges)), (vertices, edges))

    def test_example(self):
        self.assertEqual(least_of(Table(SOME, 0)), [
            (0, 0, (EMPTY,)),
            (1, 0, (EMPTY, ("new", 0))),
            (1, 0, (EMPTY, ("new", 0), ("forget", 0))),
        ])

    def test_lists_are_new(self):
        table = Table(SOME, 0)
        least_of(table).clear()
        self.assertEqual(len(least_of(table)), 3)


class DifferenceTest(unittest.TestCase):
    def check_difference(self, first, second, k, most=4):
        found = difference(first, second, k)
        self.assertIs(alike(first, second, k), found is None)
        expected = least_pair(first, second, k, most)
        if found is None:
            self.assertIsNone(expected)
            return
        vertices, edges, term = found
        check_term(term, k)
        graph, _ = made(term, k)
        self.assertEqual((graph.size, len(graph.edges)), (vertices, edges))
        self.assertNotEqual(holds(graph, first, {}), holds(graph, second, {}))
        if expected is None:
            self.assertGreater(vertices, most)
        else:
            self.assertEqual((vertices, edges), expected)

    def test_known_sentences(self):
        for k in (0, 1, 2):
            for first in (TRUE, CENTRE, EDGE, LONELY, connected()):
                for second in (FALSE, TWO, EDGE, colourable(1), colourable(2)):
                    self.check_difference(first, second, k)
                    self.check_difference(second, first, k)

    def test_sentences_that_are_nearly_the_same(self):
        two_more = ("some", ("v", 2), ("all", X, ("or", ("same", X, ("v", 2)), TRUE)))
        told = [
            (SOME, two_more, 1, None),
            (SOME, ("not", ("all", ("v", 5), FALSE)), 2, None),
            (EDGE, ("not", colourable(1)), 2, None),
            (TWO, SOME, 1, (1, 0)),
            (EDGE, TWO, 2, (2, 0)),
            (TRUE, ("not", TRIANGLE), 1, None),
            (TRUE, ("not", TRIANGLE), 2, (3, 3)),
            (TRIANGLE, ("not", colourable(2)), 2, (5, 5)),
            (KERNEL, TRUE, 1, None),
            (("not", LONELY), ("all", X, ("some", ("e", 0), ("ends", ("e", 0), X))), 2, None),
            (connected(), CENTRE, 0, (0, 0)),
            (connected(), ("or", CENTRE, ("not", SOME)), 0, None),
            (connected(), ("or", CENTRE, ("not", SOME)), 1, (4, 3)),
        ]
        for first, second, k, expected in told:
            for found in (difference(first, second, k), difference(second, first, k)):
                self.assertEqual(None if found is None else found[:2], expected)
            self.assertIs(alike(first, second, k), expected is None)
            self.assertIs(alike(second, first, k), expected is None)

    def test_one_sentence_is_alike_to_itself(self):
        for formula in SENTENCES:
            self.assertIsNone(difference(formula, formula, 1))
            self.assertIs(alike(formula, formula, 1), True)
            self.assertIs(alike(formula, ("not", formula), 1), False)

    def test_chosen_sentences(self):
        source = Random(97)
        tried = 0
        while tried < 40:
            first, second = some_sentence(source, 3), some_sentence(source, 3)
            if str(first + second).count("some") + str(first + second).count("all") < 8:
                tried += 1
                self.check_difference(first, second, source.randrange(2), 3)


class ErrorsTest(unittest.TestCase):
    def check_error(self, error, first, second, k):
        for function in (difference, alike):
            with self.assertRaises(error):
                function(first, second, k)

    def test_the_first_sentence_comes_first(self):
        self.check_error(BadValues, NO_TABLE, SOME, 1)
        self.check_error(BadValues, SOME, NO_TABLE, 1)
        self.check_error(BadValues, independent(SET), SOME, 4)
        self.check_error(BadWidth, SOME, NO_TABLE, 4)
        self.check_error(BadWidth, SOME, LARGE, -1)
        self.check_error(TooMany, LARGE, NO_TABLE, 3)
        self.check_error(BadValues, NO_TABLE, LARGE, 3)
        self.check_error(TooMany, LARGE, SOME, 3)
        self.check_error(TooMany, SOME, LARGE, 3)
        for k in (True, False, None, "0", 4, -1):
            self.check_error(BadWidth, SOME, SOME, k)

    def test_too_many_pairs(self):
        # A difference that is found early does not count.
        self.assertEqual(apart.MOST_NODES, 4000)
        for first, second, k in ((SOME, EDGE, 0), (connected(), TWO, 1), (TRUE, TRUE, 2)):
            pairs = set()
            tables = [Table(first, k), Table(second, k)]
            waiting = [(tables[0].of((EMPTY,)), tables[1].of((EMPTY,)))]
            while waiting:
                pair = waiting.pop()
                if None in pair or pair in pairs:
                    continue
                pairs.add(pair)
                for step in steps_in_order(k):
                    waiting.append((tables[0].after(pair[0], step), tables[1].after(pair[1], step)))
                for other in list(pairs):
                    waiting.append((tables[0].both(pair[0], other[0]),
                                    tables[1].both(pair[1], other[1])))
            with mock.patch.object(apart, "MOST_NODES", len(pairs)):
                found = difference(first, second, k)
                self.assertIs(found is None, first == second)
            with mock.patch.object(apart, "MOST_NODES", len(pairs) - 1):
                with self.assertRaises(TooMany):
                    difference(first, second, k)


if __name__ == "__main__":
    unittest.main()
