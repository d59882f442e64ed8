"""Promises [1.8] and, for texts, [1.9]: the text of a graph."""

import unittest
from itertools import combinations

from graph_helpers import circle, every_graph, every_pair, full, path, picture
from smallwidth.errors import BadText
from smallwidth.graph import Graph, same
from smallwidth.graphtext import graph_of, graph_text

CHARACTERS = "0123456789 \n\r\t-+_.,xgGe\u0661\u00b2\u2028"

# The number of vertices that each right first line tells, with that of edges.
FIRST_LINES = {
    f"graph {size} {many}": (size, many)
    for size in range(61)
    for many in range(size * (size - 1) // 2 + 1)
}


def wrong_line(text):
    """The first wrong line of a text, or None, without reading any number.

    The lines of the edges are looked up in the list of all that a graph with
    so many vertices can have; the list must be long enough for the rest.
    """
    lines = [line + "\n" for line in text.split("\n")]
    lines[-1] = lines[-1][:-1]
    if lines[-1] == "":
        lines.pop()
    if not lines or not lines[0].endswith("\n") or lines[0][:-1] not in FIRST_LINES:
        return 1
    size, many = FIRST_LINES[lines[0][:-1]]
    possible = [f"{u} {v}\n" for u, v in every_pair(size)]
    for number in range(2, many + 2):
        if number > len(lines) or lines[number - 1] not in possible:
            return number
        del possible[:possible.index(lines[number - 1]) + 1]
        if len(possible) < many + 1 - number:
            return number
    return None if len(lines) == many + 1 else many + 2


def beginnings():
    """All whole lines with which texts of graphs up to 4 vertices begin."""
    found = {()}
    for size in range(5):
        for graph in every_graph(size):
            lines = graph_text(graph).splitlines(keepends=True)
            for many in range(len(lines) + 1):
                found.add(tuple(lines[:many]))
    return found


def wrong_line_by_search(text, found, texts):
    """The first wrong line, by a search over all texts of small graphs."""
    lines = [line + "\n" for line in text.split("\n")]
    lines[-1] = lines[-1][:-1]
    if lines[-1] == "":
        lines.pop()
    for many in range(1, len(lines) + 1):
        if tuple(lines[:many]) not in found:
            return many
    return None if text in texts else len(lines) + 1


def changes(text):
    """All texts that are one change away from this one."""
    for at in range(len(text)):
        yield text[:at] + text[at + 1:]
        yield text[:at] + text[at] + text[at:]
        yield text[:at]
        for other in CHARACTERS:
            yield text[:at] + other + text[at + 1:]
            yield text[:at] + other + text[at:]
    yield text + "\n"
    lines = text.splitlines(keepends=True)
    for at in range(len(lines)):
        left = lines[:at] + lines[at + 1:]
        yield "".join(left)
        yield "".join(lines[:at] + [lines[at]] + lines[at:])
        for place in range(len(left) + 1):
            yield "".join(left[:place] + [lines[at]] + left[place:])


class TextTest(unittest.TestCase):
    def test_example(self):
        self.assertEqual(graph_text(Graph(3, [(1, 2), (0, 1)])), "graph 3 2\n0 1\n1 2\n")

    def test_edges_of_the_kinds(self):
        self.assertEqual(graph_text(Graph(0, [])), "graph 0 0\n")
        self.assertEqual(graph_text(Graph(60, [])), "graph 60 0\n")
        graph = Graph(12, [(10, 11), (2, 10), (2, 9)])
        self.assertEqual(graph_text(graph), "graph 12 3\n2 9\n2 10\n10 11\n")

    def test_all_small_graphs_are_read_back(self):
        for size in range(6):
            for graph in every_graph(size):
                self.assertTrue(same(graph_of(graph_text(graph)), graph))

    def test_the_largest_graphs_are_read_back(self):
        for graph in (full(60), circle(60), path(60), Graph(60, []), Graph(60, [(58, 59)])):
            self.assertTrue(same(graph_of(graph_text(graph)), graph))
        self.assertTrue(graph_text(full(60)).startswith("graph 60 1770\n0 1\n0 2\n"))

    def test_nothing_changes(self):
        graph = Graph(3, [(1, 2), (0, 1)])
        before = picture(graph)
        text = graph_text(graph)
        found = graph_of(text)
        self.assertEqual(picture(graph), before)
        self.assertIsNot(graph_of(text), found)


class WrongTextTest(unittest.TestCase):
    def assert_wrong(self, text, line):
        with self.assertRaises(BadText) as caught:
            graph_of(text)
        self.assertEqual(caught.exception.line, line, repr(text))

    def test_example(self):
        self.assert_wrong("graph 3 2\n1 2\n", 2)
        self.assert_wrong("graph 3 2\n1 2\n0 1\n", 2)

    def test_first_lines(self):
        wrong = [
            "", "\n", "graph", "graph\n", "graph 3\n", "graph 3 2 \n", " graph 3 2\n",
            "graph  3 2\n", "graph 3  2\n", "graph 3 2 1\n", "Graph 3 2\n", "graphs 3 2\n",
            "graph 03 2\n", "graph 3 02\n", "graph 00 0\n", "graph 0 00\n", "graph +3 2\n",
            "graph 3 +2\n", "graph -0 0\n", "graph 0 -0\n", "graph -1 0\n", "graph 3 -1\n",
            "graph 3\t2\n", "graph 3 2\r\n", "graph 3 2\r0 1\n", "graph x y\n",
            "graph 61 0\n", "graph 100 0\n", "graph 0 1\n", "graph 1 1\n", "graph 2 2\n",
            "graph 3 4\n", "graph 60 1771\n", "graph 60 9999\n", "graph 60 17700\n",
            "graph " + "6" * 5000 + " 0\n", "graph 3 " + "2" * 5000 + "\n",
            "graph 3 0x2\n", "graph 3 2.0\n", "graph 1_0 2\n", "graph 3 \u0662\n",
            "graph \uff13 2\n", "graph 3 \u00b2\n", "graph 3 2", "graph 0 0",
        ]
        for text in wrong:
            with self.subTest(text[:20]):
                self.assert_wrong(text, 1)
                if text[-1:] == "\n":
                    self.assert_wrong(text + "0 1\n1 2\n", 1)

    def test_edges(self):
        wrong = [
            "", "0", "0 3", "1 0", "0 0", "0 1 ", " 0 1", "0  1", "0 1 2", "00 1", "0 01",
            "-0 1", "+0 1", "0 +1", "0 -1", "0 1\r", "0\t1", "a b", "0,1", "0 \u0661",
            "0 " + "1" * 5000, "graph 3 3", "1 1", "0 2", "1 2",
        ]
        for line in wrong:
            with self.subTest(line[:20]):
                self.assert_wrong("graph 3 3\n" + line + "\n", 2)
                self.assert_wrong("graph 3 3\n" + line + "\n0 2\n1 2\n", 2)
        self.assert_wrong("graph 3 3\n0 1\n0 1\n", 3)
        self.assert_wrong("graph 4 2\n0 2\n0 1\n", 3)

    def test_missing_lines(self):
        text = graph_text(full(4))
        lines = text.splitlines(keepends=True)
        for many in range(len(lines)):
            self.assert_wrong("".join(lines[:many]), many + 1)

    def test_last_line_without_its_newline(self):
        text = graph_text(full(4))
        lines = text.splitlines(keepends=True)
        for many in range(1, len(lines) + 1):
            self.assert_wrong("".join(lines[:many])[:-1], many)

    def test_too_many_lines(self):
        for more in ("\n", "0 1\n", "2 3\n", "0 1", "x", " ", "\n\n", "graph 0 0\n", "\r\n"):
            self.assert_wrong("graph 0 0\n" + more, 2)
            self.assert_wrong("graph 4 2\n0 1\n0 2\n" + more, 4)
            self.assert_wrong("graph 3 3\n0 1\n0 2\n1 2\n" + more, 5)

    def test_the_first_wrong_line_counts(self):
        self.assert_wrong("graph 3 2\n0 1\n0 3\nx\n", 3)
        self.assert_wrong("graph 3 2\n0 3\n0 1\nx", 2)
        self.assert_wrong("graph 3 9\n0 1\n0 2\n", 1)

    def test_room_for_the_edges_that_follow(self):
        pairs = every_pair(60)
        for many in (1, 2, 60, 1769, 1770):
            for at in (0, 1, 58, 59, 60, 1000, 1768, 1769):
                edges = pairs[at:at + many]
                text = f"graph 60 {many}\n" + "".join(f"{u} {v}\n" for u, v in edges)
                if len(edges) == many:
                    self.assertEqual(graph_of(text).edges, tuple(edges))
                else:
                    self.assert_wrong(text, 2)

    def test_lines_that_a_search_finds(self):
        texts = {graph_text(graph) for size in range(5) for graph in every_graph(size)}
        found = beginnings()
        for first in range(5):
            for many in range(8):
                for chosen in combinations(every_pair(4) + [(2, 1)], min(many, 3)):
                    text = f"graph {first} {many}\n" + "".join(f"{u} {v}\n" for u, v in chosen)
                    expected = wrong_line_by_search(text, found, texts)
                    self.assertEqual(wrong_line(text), expected)
                    if expected is None:
                        self.assertEqual(graph_of(text).edges, chosen)
                    else:
                        self.assert_wrong(text, expected)

    def test_each_text_one_change_away(self):
        graphs = [graph for size in range(4) for graph in every_graph(size)]
        graphs += [full(4), path(4), circle(4), Graph(4, [(1, 2), (2, 3)])]
        graphs += [Graph(12, [(1, 10), (9, 11)]), Graph(60, [(5, 59)])]
        texts = {graph_text(graph) for size in range(5) for graph in every_graph(size)}
        found = beginnings()
        tried = {}
        for graph in graphs:
            for text in changes(graph_text(graph)):
                tried[text] = True
        for text in tried:
            line = wrong_line(text)
            if FIRST_LINES.get(text.split("\n")[0], (5, 0))[0] < 5:
                self.assertEqual(line, wrong_line_by_search(text, found, texts))
            if line is None:
                self.assertEqual(graph_text(graph_of(text)), text)
            else:
                self.assert_wrong(text, line)


if __name__ == "__main__":
    unittest.main()
