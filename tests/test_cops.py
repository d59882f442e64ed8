"""Promises [3.10] to [3.12] and, for cops, [3.14]."""

import random
import unittest
from itertools import combinations

from graph_helpers import (
    circle, every_graph, full, path, picture, pieces_by_merging, some_graph,
)
from smallwidth.bramble import bramble, haven
from smallwidth.cops import Chase
from smallwidth.errors import BadPosition, TooLarge
from smallwidth.graph import Graph, renumbered, together
from smallwidth.least import all_graphs
from smallwidth.width import width
from term_helpers import STRANGE

PATH = path(3)
WHOLE = (0, 1, 2)


def positions(graph, cops):
    """All positions, by the definition."""
    found = []
    for many in range(min(cops, graph.size) + 1):
        for standing in combinations(range(graph.size), many):
            found += [(standing, region) for region in pieces_by_merging(graph, standing)]
    return found


def moves(graph, cops, standing):
    """All moves, "lift" before "place", and then by the vertices."""
    found = [("lift", v) for v in standing]
    if len(standing) < cops:
        found += [("place", v) for v in range(graph.size) if v not in standing]
    return found


def following(graph, standing, region, move):
    """The positions that may follow a move, by the definition."""
    word, v = move
    if word == "lift":
        left = tuple(u for u in standing if u != v)
        return [(left, one) for one in pieces_by_merging(graph, left) if set(region) <= set(one)]
    more = tuple(sorted(standing + (v,)))
    if v not in region:
        return [(more, region)]
    return [(more, one) for one in pieces_by_merging(graph, more) if set(one) <= set(region)]


def some_graphs():
    """All graphs up to 3 vertices, and one of each kind up to 5."""
    for size in range(4):
        yield from every_graph(size)
    source = random.Random(8)
    for size in (4, 5):
        for graph in all_graphs(size):
            yield renumbered(graph, source.sample(range(size), size))


class ChaseTest(unittest.TestCase):
    def assert_chase(self, graph, cops):
        """Holds all answers against the rules; the ranks against `after`.

        A position has the rank r exactly if some move leads to smaller ranks
        alone, and none to ranks alone that are smaller than r - 1.
        """
        chase = Chase(graph, cops)
        for standing, region in positions(graph, cops):
            rank = chase.rank(standing, region)
            worst = {}
            for move in moves(graph, cops, standing):
                after = chase.after(standing, region, move)
                self.assertEqual(after, following(graph, standing, region, move))
                ranks = [chase.rank(*position) for position in after]
                worst[move] = None if None in ranks else max(ranks, default=0)
            found = [1 + most for most in worst.values() if most is not None]
            self.assertEqual(rank, min(found, default=None))
            good = [move for move in worst if rank and worst[move] is not None and worst[move] < rank]
            self.assertEqual(chase.best(standing, region), good[0] if good else None)
        starts = [chase.rank((), region) for region in pieces_by_merging(graph)]
        self.assertIs(chase.caught(), None not in starts)
        return chase

    def test_example(self):
        self.assertIs(Chase(circle(4), 3).caught(), True)
        self.assertIs(Chase(circle(4), 2).caught(), False)

    def test_a_path(self):
        chase = Chase(PATH, 2)
        self.assertEqual(chase.rank((), WHOLE), 2)
        self.assertEqual(chase.best((), WHOLE), ("place", 1))
        self.assertEqual(chase.after((), WHOLE, ("place", 1)), [((1,), (0,)), ((1,), (2,))])
        self.assertEqual(chase.best((1,), (2,)), ("place", 2))
        self.assertEqual(chase.after((1,), (2,), ("place", 2)), [])
        self.assertEqual(chase.after((1,), (2,), ("place", 0)), [((0, 1), (2,))])
        self.assertEqual(chase.after((0, 1), (2,), ("lift", 1)), [((0,), (1, 2))])
        self.assertEqual(chase.rank((0, 1), (2,)), 2)
        self.assertEqual(chase.best((0, 1), (2,)), ("lift", 0))

    def test_a_robber_who_is_not_caught(self):
        chase = Chase(PATH, 1)
        self.assertIsNone(chase.rank((), WHOLE))
        self.assertIsNone(chase.best((), WHOLE))
        self.assertEqual(chase.after((1,), (0,), ("lift", 1)), [((), WHOLE)])
        self.assertIs(chase.caught(), False)

    def test_small_graphs(self):
        for graph in some_graphs():
            for cops in range(graph.size + 2):
                chase = self.assert_chase(graph, cops)
                self.assertIs(chase.caught(), cops > width(graph))

    def test_larger_graphs(self):
        source = random.Random(9)
        for size in (6, 7, 8):
            for _ in range(4):
                graph = some_graph(source, size)
                for cops in (width(graph), width(graph) + 1):
                    chase = self.assert_chase(graph, cops)
                    self.assertIs(chase.caught(), cops > width(graph))

    def test_0_to_8_cops(self):
        for make in (path, circle, full):
            graph = make(8)
            for cops in range(9):
                self.assertIs(Chase(graph, cops).caught(), cops > width(graph))
        self.assert_chase(full(8), 8)
        self.assert_chase(together(circle(4), circle(4)), 8)
        self.assertEqual(Chase(full(8), 8).rank((), tuple(range(8))), 8)

    def test_no_vertices_and_one(self):
        for cops in range(9):
            self.assertIs(Chase(Graph(0, []), cops).caught(), True)
            self.assertIs(Chase(Graph(1, []), cops).caught(), cops > 0)
        self.assertEqual(Chase(Graph(1, []), 1).rank((), (0,)), 1)
        self.assertEqual(Chase(Graph(1, []), 1).best((), (0,)), ("place", 0))
        with self.assertRaises(BadPosition):
            Chase(Graph(0, []), 1).rank((), ())
        with self.assertRaises(BadPosition):
            Chase(Graph(1, []), 1).rank((0,), ())

    def test_8_and_9_vertices(self):
        self.assertIs(Chase(path(8), 2).caught(), True)
        for graph in (path(9), Graph(9, []), full(60)):
            for cops in (0, 1, 8):
                with self.assertRaises(TooLarge):
                    Chase(graph, cops)

    def test_somewhat_more_or_fewer_cops_raise_no_error(self):
        self.assertIs(Chase(full(8), 9).caught(), True)
        self.assertEqual(Chase(full(8), 9).rank((), tuple(range(8))), 8)
        Chase(PATH, -1)

    def test_the_robber_stays_in_the_haven(self):
        for graph in (circle(5), full(4), path(4), together(path(2), circle(3))):
            cops = width(graph)
            sets = bramble(graph)
            chase = Chase(graph, cops)
            for many in range(cops + 1):
                for standing in combinations(range(graph.size), many):
                    region = haven(graph, sets, standing)
                    self.assertIsNone(chase.rank(standing, region))
                    for move in moves(graph, cops, standing):
                        after = chase.after(standing, region, move)
                        now = after[0][0]
                        self.assertIn((now, haven(graph, sets, now)), after)

    def test_nothing_changes(self):
        graph = circle(5)
        before = picture(graph)
        chase = Chase(graph, 3)
        position = ((0, 2), (3, 4))
        found = chase.after(*position, ("place", 3))
        expected = list(found)
        found.clear()
        self.assertEqual(chase.after(*position, ("place", 3)), expected)
        start = chase.after(*position, ("lift", 0))
        start.append(position)
        self.assertEqual(len(chase.after(*position, ("lift", 0))), 1)
        self.assertEqual(picture(graph), before)


class BadPositionTest(unittest.TestCase):
    def assert_none(self, chase, standing, region):
        for question in (chase.rank, chase.best):
            with self.assertRaises(BadPosition):
                question(standing, region)
        for move in (("place", 0), ("lift", 0), ("place", 2), None):
            with self.assertRaises(BadPosition):
                chase.after(standing, region, move)

    def test_positions_that_are_none(self):
        chase = Chase(circle(4), 2)
        wrong = [
            ((), ()), ((), (0,)), ((), (0, 1, 2)), ((0,), (0, 1, 2, 3)), ((0,), (1, 2)),
            ((0, 2), (1, 3)), ((0, 2), (2,)), ((0, 2), ()), ((2, 0), (1,)), ((0, 0), (1, 2, 3)),
            ((0, 1, 2), (3,)), ((4,), (0, 1, 2, 3)), ((-1,), (0, 1, 2, 3)), ((0,), (3, 2, 1)),
            ((0,), (1, 2, 2, 3)), ((0,), (1, 2, 3, 4)), ([0], (1, 2, 3)), ((0,), [1, 2, 3]),
            ([], (0, 1, 2, 3)), ((False,), (1, 2, 3)), ((0, True), (2, 3)), ((True, 3), (2,)),
            ((0,), (True, 2, 3)), ((), (False, 1, 2, 3)), ((0.0,), (1, 2, 3)), ((0,), (1.0, 2, 3)),
            (0, (1, 2, 3)), ((0,), 1), ("0", (1, 2, 3)), (("0",), (1, 2, 3)), (None, None),
            ((0, 2), (True,)), ((None,), (1, 2, 3)), (((0,),), (1, 2, 3)), ((0,), ((1, 2, 3),)),
            ({}, (0, 1, 2, 3)), ((10 ** 6000,), (0, 1, 2, 3)), ((), "0123"),
        ]
        for standing, region in wrong:
            self.assert_none(chase, standing, region)

    def test_more_cops_than_there_are(self):
        graph = full(4)
        for cops in range(4):
            chase = Chase(graph, cops)
            for many in range(5):
                for standing in combinations(range(4), many):
                    region = tuple(v for v in range(4) if v not in standing)
                    if many <= cops:
                        chase.rank(standing, region)
                    else:
                        self.assert_none(chase, standing, region)

    def test_all_tuples(self):
        graph = Graph(4, [(0, 1), (1, 2)])
        chase = Chase(graph, 2)
        right = positions(graph, 2)
        tuples = [one for many in range(5) for one in combinations(range(4), many)]
        for standing in tuples:
            for region in tuples:
                if (standing, region) in right:
                    chase.rank(standing, region)
                else:
                    self.assert_none(chase, standing, region)

    def test_every_value(self):
        chase = Chase(circle(4), 2)
        for value in STRANGE:
            self.assert_none(chase, (0,), value)
            self.assert_none(chase, (value,), (0, 1, 2))
            self.assert_none(chase, (), (value,))
            if not isinstance(value, tuple):
                self.assert_none(chase, value, (0, 1, 2, 3))
            with self.assertRaises(BadPosition):
                chase.after((0,), (1, 2, 3), value)
            with self.assertRaises(BadPosition):
                chase.after((0,), (1, 2, 3), (value, 0))
            if isinstance(value, bool) or not isinstance(value, int):
                for word in ("lift", "place"):
                    with self.assertRaises(BadPosition):
                        chase.after((0,), (1, 2, 3), (word, value))

    def test_moves_that_cannot_be_made(self):
        chase = Chase(circle(4), 2)
        wrong = [
            ("lift", 1), ("lift", 3), ("lift", 4), ("lift", -1), ("place", 0), ("place", 4),
            ("place", -1), ("lift", False), ("place", True), ("lift",), ("place",), (),
            ("lift", 0, 0), ("place", 1, 2), ["lift", 0], ["place", 1], ("Lift", 0), ("put", 1),
            (0, "lift"), (1, "place"), ("lift", "0"), ("place", (1,)), ("place", [1]), "lift",
            ("place", 1.0), (b"place", 1), {"place": 1}, None, ("lift", None), (("lift", 0),),
        ]
        for move in wrong:
            with self.assertRaises(BadPosition):
                chase.after((0,), (1, 2, 3), move)

    def test_no_more_cops_to_place(self):
        chase = Chase(circle(4), 2)
        for v in range(4):
            with self.assertRaises(BadPosition):
                chase.after((0, 2), (1,), ("place", v))
        for v in range(4):
            with self.assertRaises(BadPosition):
                Chase(circle(4), 0).after((), (0, 1, 2, 3), ("place", v))


if __name__ == "__main__":
    unittest.main()
