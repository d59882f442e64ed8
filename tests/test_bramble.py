"""Promises [3.6] to [3.9], [3.13] and, for brambles, [3.14]."""

import random
import unittest
from itertools import combinations, product

from graph_helpers import (
    circle, every_graph, full, path, picture, pieces_by_merging, some_graph,
)
from smallwidth.bags import bags_of, fault
from smallwidth.bramble import bramble, cover, haven, is_bramble, meeting_bag, strength
from smallwidth.errors import BadBramble, NoHaven, TooLarge
from smallwidth.graph import Graph, renumbered, together
from smallwidth.least import all_graphs
from smallwidth.width import decomposition, width
from term_helpers import STRANGE

CIRCLE = circle(4)
SETS = ((0,), (0, 1), (0, 3), (1,), (1, 2), (2, 3))

WRONG = [
    list(SETS), [(0,)], ([0],), (0,), (None,), "0", ("0",), ((),), ((), (0,)), ((0,), ()),
    ((0, 2),), ((0,), (2,)), ((0,), (1,), (2,)), ((1,), (0,)), ((0,), (0,)), ((0, 1), (0,)),
    ((1, 0),), ((0, 0),), ((0, 0, 1),), ((4,),), ((-1,),), ((0, 4),), ((3, 4),), ((True,),),
    ((False,),), ((0, True),), ((False, 1),), ((0,), (True, 2)), ((0.0,),), ((0, 1.0),),
    (("0",),), (((0,),),), ({0: True},), {(0,): True}, ((0,), [1]), ((10 ** 6000,),),
    ((0, 1, 3), (2,), (0,)),
]


def touch(graph, first, second):
    if set(first) & set(second):
        return True
    return any(graph.has(u, v) for u in first for v in second)


def is_bramble_by_looking(graph, sets):
    """Whether ascending tuples of vertices are a bramble, by the definition."""
    if list(sets) != sorted(set(sets)):
        return False
    for one in sets:
        others = [v for v in range(graph.size) if v not in one]
        if not one or pieces_by_merging(graph, others) != [one]:
            return False
    return all(touch(graph, a, b) for a, b in combinations(sets, 2))


def every_set(size):
    return [one for many in range(size + 1) for one in combinations(range(size), many)]


def hits(chosen, sets):
    return all(set(chosen) & set(one) for one in sets)


def cover_by_looking(graph, sets):
    found = [chosen for chosen in every_set(graph.size) if hits(chosen, sets)]
    return min(found, key=lambda chosen: (len(chosen), chosen))


def bramble_by_all_choices(graph):
    """The bramble that [3.9] tells, by going through all choices."""
    if graph.size == 0:
        return ()
    tuples = list(combinations(range(graph.size), width(graph)))
    for chosen in product(*[pieces_by_merging(graph, gone) for gone in tuples]):
        if all(touch(graph, a, b) for a, b in combinations(chosen, 2)):
            return tuple(sorted(set(chosen)))
    return None


def small_graphs():
    """All graphs with up to 4 vertices, and those with 5 in some orders."""
    for size in range(5):
        yield from every_graph(size)
    source = random.Random(6)
    for graph in all_graphs(5):
        for _ in range(3):
            yield renumbered(graph, source.sample(range(5), 5))


def larger_graphs(most):
    source = random.Random(7)
    for size in range(6, most + 1):
        for _ in range(8):
            yield some_graph(source, size)
    yield from (circle(most), path(most), full(most), Graph(most, []))
    yield together(circle(4), path(most - 4))
    yield together(path(most - 4), circle(4))
    yield together(path(most - 4), full(4))


class IsBrambleTest(unittest.TestCase):
    def test_example(self):
        self.assertIs(is_bramble(CIRCLE, SETS), True)

    def test_no_sets(self):
        self.assertIs(is_bramble(CIRCLE, ()), True)
        self.assertIs(is_bramble(Graph(0, []), ()), True)
        self.assertIs(is_bramble(Graph(0, []), ((),)), False)

    def test_values_that_are_none(self):
        for sets in WRONG:
            self.assertIs(is_bramble(CIRCLE, sets), False)

    def test_every_value(self):
        for value in STRANGE:
            self.assertIs(is_bramble(CIRCLE, value), isinstance(value, tuple))
            self.assertIs(is_bramble(CIRCLE, (value,)), False)
            self.assertIs(is_bramble(CIRCLE, ((0,), value)), False)
            self.assertIs(is_bramble(CIRCLE, (value, (0,))), False)
            if isinstance(value, bool) or not isinstance(value, int):
                self.assertIs(is_bramble(CIRCLE, ((value,),)), False)

    def test_all_sets_of_small_graphs(self):
        for size in range(4):
            for graph in every_graph(size):
                for many in range(4):
                    for sets in product(every_set(size), repeat=many):
                        expected = is_bramble_by_looking(graph, sets)
                        self.assertIs(is_bramble(graph, sets), expected)

    def test_pairs_and_triples_of_sets_of_a_path_and_a_circle(self):
        for graph in (path(4), CIRCLE, Graph(4, [(0, 1), (2, 3)])):
            for many in (1, 2, 3):
                for sets in combinations(sorted(every_set(4)), many):
                    expected = is_bramble_by_looking(graph, sets)
                    self.assertIs(is_bramble(graph, sets), expected)

    def test_large_graphs(self):
        self.assertIs(is_bramble(path(60), tuple((v, v + 1) for v in range(59))), False)
        self.assertIs(is_bramble(full(60), tuple((v,) for v in range(60))), True)
        self.assertIs(is_bramble(path(60), ((0,), tuple(range(60)), (59,))), False)
        self.assertIs(is_bramble(path(60), (tuple(range(30)), tuple(range(30, 60)))), True)


class CoverTest(unittest.TestCase):
    def test_example(self):
        self.assertEqual(cover(CIRCLE, SETS), (0, 1, 2))
        self.assertEqual(strength(CIRCLE, SETS), 3)

    def test_no_sets(self):
        for graph in (CIRCLE, Graph(0, [])):
            self.assertEqual(cover(graph, ()), ())
            self.assertEqual(strength(graph, ()), 0)

    def test_the_shorter_ones_come_first(self):
        self.assertEqual(cover(full(4), ((0, 1, 3), (2, 3))), (3,))
        self.assertEqual(cover(full(4), ((1, 2), (1, 3), (2, 3))), (1, 2))
        self.assertEqual(cover(full(12), tuple((v,) for v in range(12))), tuple(range(12)))
        self.assertEqual(cover(path(12), ((11,),)), (11,))

    def test_all_brambles_of_small_graphs(self):
        for size in range(4):
            for graph in every_graph(size):
                for many in range(4):
                    for sets in combinations(sorted(every_set(size)), many):
                        if is_bramble_by_looking(graph, sets):
                            expected = cover_by_looking(graph, sets)
                            self.assertEqual(cover(graph, sets), expected)
                            self.assertEqual(strength(graph, sets), len(expected))

    def test_brambles_of_larger_graphs(self):
        for graph in larger_graphs(8):
            sets = bramble(graph)
            self.assertEqual(cover(graph, sets), cover_by_looking(graph, sets))

    def test_values_that_are_no_brambles(self):
        for question in (cover, strength):
            for sets in WRONG + [value for value in STRANGE if not isinstance(value, tuple)]:
                with self.assertRaises(BadBramble):
                    question(CIRCLE, sets)

    def test_12_and_13_vertices(self):
        for question in (cover, strength):
            self.assertIn(question(circle(12), ((0, 1), (1, 2))), ((1,), 1))
            for sets in (((0, 1), (1, 2)), (), None):
                with self.assertRaises(TooLarge):
                    question(circle(13), sets)


class MeetingBagTest(unittest.TestCase):
    def test_meeting_bag(self):
        bags, _ = decomposition(CIRCLE)
        self.assertEqual(meeting_bag(bags, SETS), 3)
        self.assertEqual(meeting_bag(((0, 1), (2, 3)), SETS), None)
        self.assertEqual(meeting_bag(((0, 1), (0, 1, 2), (1, 2, 3)), SETS), 1)
        self.assertEqual(meeting_bag(((),), ()), 0)
        self.assertEqual(meeting_bag(((), (0,)), ((0,),)), 1)
        self.assertIs(meeting_bag(((), (1,)), ((0,),)), None)
        self.assertEqual(meeting_bag(((2,), (59,)), ((58, 59),)), 1)

    def test_some_bag_of_each_decomposition_hits_each_bramble(self):
        for graph in small_graphs():
            bags, _ = decomposition(graph)
            sets = bramble(graph)
            found = meeting_bag(bags, sets)
            self.assertTrue(hits(bags[found], sets))
            self.assertFalse(any(hits(bag, sets) for bag in bags[:found]))

    def test_bags_of_a_term(self):
        term = (("empty",), ("new", 0), ("new", 1), ("edge", 0, 1), ("forget", 0), ("new", 0), ("edge", 0, 1))
        bags, parents = bags_of(term, 1)
        self.assertIsNone(fault(path(3), bags, parents))
        self.assertEqual(meeting_bag(bags, ((0,), (0, 1))), 2)


class MadeBrambleTest(unittest.TestCase):
    def assert_strong(self, graph):
        sets = bramble(graph)
        self.assertTrue(is_bramble_by_looking(graph, sets))
        self.assertIs(is_bramble(graph, sets), True)
        self.assertEqual(strength(graph, sets), width(graph) + 1)

    def test_example(self):
        self.assertEqual(bramble(CIRCLE), SETS)

    def test_the_least_graphs(self):
        self.assertEqual(bramble(Graph(0, [])), ())
        self.assertEqual(bramble(Graph(1, [])), ((0,),))
        self.assertEqual(bramble(Graph(3, [(1, 2)])), ((1,), (1, 2), (2,)))
        self.assertEqual(bramble(Graph(9, [])), ((0,),))

    def test_the_first_of_all_choices(self):
        for graph in small_graphs():
            self.assertEqual(bramble(graph), bramble_by_all_choices(graph))
            self.assert_strong(graph)

    def test_the_first_component_is_not_always_chosen(self):
        graph = together(path(2), circle(3))
        self.assertEqual(bramble(graph), bramble_by_all_choices(graph))
        self.assertEqual(bramble(graph), ((2,), (2, 3), (2, 3, 4), (2, 4), (3,), (3, 4), (4,)))

    def test_larger_graphs(self):
        for graph in larger_graphs(9):
            self.assert_strong(graph)

    def test_first_choices_of_larger_graphs(self):
        graphs = [path(6), circle(6), together(path(3), circle(3)), together(circle(3), path(3))]
        for graph in graphs + [full(7), path(7), Graph(7, []), together(path(4), path(3))]:
            self.assertEqual(bramble(graph), bramble_by_all_choices(graph))

    def test_9_and_10_vertices(self):
        for make in (path, circle, full):
            self.assert_strong(make(9))
            with self.assertRaises(TooLarge):
                bramble(make(10))
        with self.assertRaises(TooLarge):
            bramble(Graph(10, []))

    def test_nothing_changes(self):
        graph = circle(5)
        before = picture(graph)
        sets = bramble(graph)
        cover(graph, sets)
        haven(graph, sets, (0, 1))
        self.assertEqual(picture(graph), before)
        self.assertEqual(bramble(graph), sets)


class HavenTest(unittest.TestCase):
    def test_example(self):
        self.assertEqual(haven(CIRCLE, SETS, (0, 1)), (2, 3))
        self.assertEqual(haven(CIRCLE, SETS, (0, 2)), (1,))
        self.assertEqual(haven(CIRCLE, SETS, ()), (0, 1, 2, 3))

    def test_each_tuple_of_at_most_w_vertices(self):
        for graph in list(small_graphs()) + list(larger_graphs(8)):
            sets = bramble(graph)
            for many in range(width(graph) + 1):
                for standing in combinations(range(graph.size), many):
                    self.assert_haven(graph, sets, standing)

    def assert_haven(self, graph, sets, standing):
        found = haven(graph, sets, standing)
        self.assertIn(found, pieces_by_merging(graph, standing))
        left = [one for one in sets if not set(one) & set(standing)]
        self.assertTrue(left)
        self.assertTrue(all(set(one) <= set(found) for one in left))

    def test_all_standing_vertices(self):
        for graph in (CIRCLE, path(4), full(4)):
            sets = bramble(graph)
            for standing in every_set(4):
                if hits(standing, sets):
                    with self.assertRaises(NoHaven):
                        haven(graph, sets, standing)
                else:
                    self.assert_haven(graph, sets, standing)

    def test_no_sets_are_always_hit(self):
        for standing in ((), (0,)):
            with self.assertRaises(NoHaven):
                haven(CIRCLE, (), standing)
        with self.assertRaises(NoHaven):
            haven(Graph(0, []), (), ())

    def test_values_that_are_no_brambles(self):
        for sets in WRONG + [value for value in STRANGE if not isinstance(value, tuple)]:
            for standing in ((), (0, 1), (0, 1, 2, 3)):
                with self.assertRaises(BadBramble):
                    haven(CIRCLE, sets, standing)

    def test_more_than_12_vertices(self):
        self.assertEqual(haven(path(60), ((0, 1), (1, 2)), (0, 30)), tuple(range(1, 30)))
        with self.assertRaises(NoHaven):
            haven(path(60), ((0, 1), (1, 2)), (1,))


if __name__ == "__main__":
    unittest.main()
