"""Promise [4.8]: the known formulas, word by word, and what they say."""

import unittest
from itertools import product

from graph_helpers import circle, every_graph, full, path, pieces_by_merging
from smallwidth.formula import free, is_formula
from smallwidth.formulatext import formula_text
from smallwidth.graph import Graph
from smallwidth.known import closed, colourable, connected, dominating, independent, matching
from smallwidth.truth import holds, satisfying, values_of

GRAPHS = [graph for size in range(5) for graph in every_graph(size)]


def independent_of(variable):
    return (
        "all", ("v", 8), ("all", ("v", 9), (
            "or",
            ("not", ("and", ("in", ("v", 8), variable), ("in", ("v", 9), variable))),
            ("not", ("near", ("v", 8), ("v", 9))),
        )),
    )


def closed_of(variable):
    return (
        "all", ("v", 8), ("all", ("v", 9), (
            "or",
            ("not", ("and", ("in", ("v", 8), variable), ("near", ("v", 8), ("v", 9)))),
            ("in", ("v", 9), variable),
        )),
    )


def near_in(graph, u):
    return {w for edge in graph.edges for w in edge if u in edge and w != u}


def is_independent(graph, chosen):
    return not any(u in chosen and v in chosen for u, v in graph.edges)


def is_dominating(graph, chosen):
    return all(v in chosen or near_in(graph, v) & set(chosen) for v in range(graph.size))


def is_closed(graph, chosen):
    return all((u in chosen) == (v in chosen) for u, v in graph.edges)


def is_matching(chosen):
    ends = [v for edge in chosen for v in edge]
    return len(ends) == len(set(ends))


def has_colours(graph, count):
    return any(
        all(colours[u] != colours[v] for u, v in graph.edges)
        for colours in product(range(count), repeat=graph.size)
    )


class WordsTest(unittest.TestCase):
    def test_independent(self):
        for number in range(8):
            self.assertEqual(independent(("V", number)), independent_of(("V", number)))

    def test_dominating(self):
        for number in range(8):
            variable = ("V", number)
            self.assertEqual(dominating(variable), (
                "all", ("v", 8), (
                    "or",
                    ("in", ("v", 8), variable),
                    ("some", ("v", 9), (
                        "and", ("near", ("v", 8), ("v", 9)), ("in", ("v", 9), variable),
                    )),
                ),
            ))

    def test_closed(self):
        for number in range(8):
            self.assertEqual(closed(("V", number)), closed_of(("V", number)))

    def test_colourable(self):
        a, b, c = ("V", 0), ("V", 1), ("V", 2)
        x = ("v", 8)
        one = ("in", x, a)
        two = ("or", one, ("in", x, b))
        three = ("or", two, ("in", x, c))
        self.assertEqual(
            colourable(1), ("some", a, ("and", independent_of(a), ("all", x, one))),
        )
        both = ("and", independent_of(a), independent_of(b))
        self.assertEqual(
            colourable(2), ("some", a, ("some", b, ("and", both, ("all", x, two)))),
        )
        body = ("and", ("and", both, independent_of(c)), ("all", x, three))
        self.assertEqual(
            colourable(3), ("some", a, ("some", b, ("some", c, body))),
        )

    def test_connected(self):
        x, variable = ("v", 8), ("V", 0)
        self.assertEqual(connected(), (
            "all", variable, (
                "or",
                ("not", closed_of(variable)),
                (
                    "or",
                    ("all", x, ("not", ("in", x, variable))),
                    ("all", x, ("in", x, variable)),
                ),
            ),
        ))

    def test_matching(self):
        e, f, x = ("e", 8), ("e", 9), ("v", 8)
        for number in range(10):
            variable = ("E", number)
            self.assertEqual(matching(variable), (
                "all", e, ("all", f, (
                    "or",
                    ("not", ("and", ("in", e, variable), ("in", f, variable))),
                    (
                        "or",
                        ("same", e, f),
                        ("all", x, ("not", ("and", ("ends", e, x), ("ends", f, x)))),
                    ),
                )),
            ))

    def test_they_are_formulas_with_these_free_variables(self):
        sentences = [colourable(1), colourable(2), colourable(3), connected()]
        for sentence in sentences:
            self.assertTrue(is_formula(sentence))
            self.assertEqual(free(sentence), [])
        for formula in (independent, dominating, closed):
            self.assertTrue(is_formula(formula(("V", 5))))
            self.assertEqual(free(formula(("V", 5))), [("V", 5)])
        self.assertTrue(is_formula(matching(("E", 5))))
        self.assertEqual(free(matching(("E", 5))), [("E", 5)])

    def test_texts(self):
        self.assertEqual(
            formula_text(independent(("V", 3))),
            "all v8 (all v9 ((!((v8 in V3 & v9 in V3)) | !(v8 ~ v9))))",
        )
        self.assertEqual(
            formula_text(dominating(("V", 3))),
            "all v8 ((v8 in V3 | some v9 ((v8 ~ v9 & v9 in V3))))",
        )

    def test_somewhat_beyond_the_limits(self):
        for graph in (Graph(0, []), Graph(1, []), full(4)):
            self.assertIs(holds(graph, colourable(0), {}), graph.size == 0)
        self.assertIs(holds(full(4), colourable(4), {}), True)


class MeaningTest(unittest.TestCase):
    def check_sets(self, formula, variable, is_right):
        for graph in GRAPHS:
            expected = [
                value for value in values_of(graph, variable[0]) if is_right(graph, value)
            ]
            self.assertEqual(satisfying(graph, formula, variable), expected)

    def test_sets_of_vertices(self):
        variable = ("V", 1)
        self.check_sets(independent(variable), variable, is_independent)
        self.check_sets(dominating(variable), variable, is_dominating)
        self.check_sets(closed(variable), variable, is_closed)

    def test_matching(self):
        variable = ("E", 0)
        self.check_sets(matching(variable), variable, lambda _, chosen: is_matching(chosen))

    def test_connected(self):
        for graph in GRAPHS + [path(6), circle(6), Graph(6, [(0, 1), (2, 3), (4, 5)])]:
            self.assertIs(holds(graph, connected(), {}), len(pieces_by_merging(graph)) <= 1)

    def test_colourable(self):
        more = [circle(5), circle(6), full(5), path(6), Graph(6, full(5).edges)]
        for graph in GRAPHS + more:
            for count in (1, 2, 3):
                self.assertIs(holds(graph, colourable(count), {}), has_colours(graph, count))


if __name__ == "__main__":
    unittest.main()
