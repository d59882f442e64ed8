"""Promises [2.6] to [2.10] and, for decompositions, [2.11]."""

import random
import unittest
from itertools import combinations, product

from graph_helpers import circle, every_graph, full, path, picture
from term_helpers import EMPTY, EXAMPLE, JOIN, STRANGE, play, some_term
from smallwidth.bags import bags_of, fault, term_of, width_of
from smallwidth.errors import BadBags
from smallwidth.graph import Graph, renumbered, same
from smallwidth.terms import check_term, made, most_labels, operands

PATH = Graph(3, [(0, 1), (1, 2)])


def every_bag(size):
    """All ascending tuples of vertices."""
    return [bag for many in range(size + 1) for bag in combinations(range(size), many)]


def every_parents(many):
    """All tuples of parents of so many bags."""
    return product([-1], *[range(number) for number in range(1, many)])


def fault_by_looking(graph, bags, parents):
    """The fault of values that have the form, by the definition."""
    for v in range(graph.size):
        if not any(v in bag for bag in bags):
            return ("vertex", v)
    for edge in graph.edges:
        if not any(set(edge) <= set(bag) for bag in bags):
            return ("edge",) + edge
    for v in range(graph.size):
        numbers = [number for number, bag in enumerate(bags) if v in bag]
        reached = numbers[:1]
        for _ in numbers:
            reached += [n for n in numbers if n not in reached and parents[n] in reached]
        if sorted(reached) != numbers:
            return ("apart", v)
    return None


def term_by_the_text(graph, bags, parents):
    """The term and the order that [2.9] tells, and the labels of each bag."""
    labels = [{v: at for at, v in enumerate(bags[0])}]
    for number in range(1, len(bags)):
        above, own = labels[parents[number]], {}
        for v in bags[number]:
            if v in above:
                own[v] = above[v]
        for v in bags[number]:
            if v not in above:
                own[v] = min(set(range(61)) - set(own.values()))
        labels.append(own)
    steps = steps_for(graph, bags, parents, labels, 0)
    steps += [("forget", label, v) for v, label in sorted(labels[0].items(), key=second)]
    order = []
    for step in steps:
        if step[0] == "new" and step[2] not in order:
            order.append(step[2])
    term = [step[:2] if step[0] in ("new", "forget") else step for step in steps]
    return tuple(term), tuple(order)


def second(pair):
    return pair[1]


def steps_for(graph, bags, parents, labels, number):
    """The steps for a bag; "new" and "forget" also tell the vertex."""
    bag, own = bags[number], labels[number]
    children = [n for n in range(1, len(bags)) if parents[n] == number]
    steps = []
    for child in children:
        below = labels[child]
        steps += steps_for(graph, bags, parents, labels, child)
        alone = [(below[v], v) for v in bags[child] if v not in bag]
        steps += [("forget", label, v) for label, v in sorted(alone)]
        more = [(own[v], v) for v in bag if v not in bags[child]]
        steps += [("new", label, v) for label, v in sorted(more)]
        if child != children[0]:
            steps.append(JOIN)
    if not children:
        steps = [EMPTY] + [("new", label, v) for label, v in sorted((own[v], v) for v in bag)]
    for u, v in graph.edges:
        together = [n for n in range(len(bags)) if u in bags[n] and v in bags[n]]
        if together[0] == number:
            steps.append(("edge", min(own[u], own[v]), max(own[u], own[v])))
    return steps


def some_decomposition(source, size):
    """A graph with a decomposition, chosen at random."""
    bags = [tuple(sorted(source.sample(range(size), source.randint(0, size))))]
    parents = [-1]
    fresh = size
    for number in range(1, source.randint(1, 12)):
        parent = source.randrange(number)
        kept = [v for v in bags[parent] if source.random() < 0.6]
        more = list(range(fresh, fresh + source.randint(0, size - len(kept))))
        fresh += len(more)
        bags.append(tuple(kept + more))
        parents.append(parent)
    number = list(range(fresh))
    source.shuffle(number)
    used = sorted({number[v] for bag in bags for v in bag})
    bags = tuple(tuple(sorted(used.index(number[v]) for v in bag)) for bag in bags)
    pairs = sorted({pair for bag in bags for pair in combinations(bag, 2)})
    edges = [pair for pair in pairs if source.random() < 0.6]
    return Graph(len(used), edges), bags, tuple(parents)


class FaultTest(unittest.TestCase):
    def test_decompositions(self):
        self.assertIsNone(fault(PATH, ((0, 1), (1, 2)), (-1, 0)))
        self.assertIsNone(fault(PATH, ((0, 1, 2),), (-1,)))
        self.assertIsNone(fault(Graph(0, []), ((),), (-1,)))
        self.assertIsNone(fault(Graph(1, []), ((), (), (0,)), (-1, 0, 1)))
        self.assertIsNone(fault(full(60), (tuple(range(60)),), (-1,)))

    def test_each_fault(self):
        self.assertEqual(fault(PATH, ((0, 1),), (-1,)), ("vertex", 2))
        self.assertEqual(fault(PATH, ((1,),), (-1,)), ("vertex", 0))
        self.assertEqual(fault(PATH, ((0, 1), (2,)), (-1, 0)), ("edge", 1, 2))
        self.assertEqual(fault(PATH, ((0, 2), (1,)), (-1, 0)), ("edge", 0, 1))
        self.assertEqual(fault(PATH, ((0, 1), (), (1, 2)), (-1, 0, 1)), ("apart", 1))
        self.assertEqual(fault(Graph(0, []), (), ()), ("form",))
        self.assertEqual(fault(Graph(1, []), ((),), (-1,)), ("vertex", 0))

    def test_which_fault_comes_first(self):
        self.assertEqual(fault(PATH, ((0, 3),), (-1,)), ("form",))
        self.assertEqual(fault(PATH, ((0,), (), (0,)), (-1, 0, 1)), ("vertex", 1))
        self.assertEqual(fault(PATH, ((0,), (1,), (0, 2)), (-1, 0, 1)), ("edge", 0, 1))
        bags = ((1, 2), (), (0, 1, 2), (), (0,))
        self.assertEqual(fault(PATH, bags, (-1, 0, 1, 2, 3)), ("apart", 0))

    def test_all_bags_of_small_graphs(self):
        for size, most in ((0, 3), (1, 3), (2, 3), (3, 3)):
            for graph in every_graph(size):
                for many in range(1, most + 1):
                    for bags in product(every_bag(size), repeat=many):
                        for parents in every_parents(many):
                            expected = fault_by_looking(graph, bags, parents)
                            self.assertEqual(fault(graph, bags, parents), expected)

    def test_trees_of_five_bags(self):
        graph = Graph(2, [(0, 1)])
        for bags in product([(), (0,), (1,), (0, 1)], repeat=5):
            for parents in every_parents(5):
                expected = fault_by_looking(graph, bags, parents)
                self.assertEqual(fault(graph, bags, parents), expected)

    def test_bags_that_have_not_the_form(self):
        wrong = [
            (), ((0, 1), (1, 2), ()), [(0, 1), (1, 2)], ([0, 1], (1, 2)), ((0, 1), {1: 2}),
            ((1, 0), (1, 2)), ((0, 0, 1), (1, 2)), ((0, 1, 3), (1, 2)), ((-1, 0, 1), (1, 2)),
            ((0, True), (1, 2)), ((False, 1), (1, 2)), ((0, 1), (True, 2)), ((0, 1), (1, 2.0)),
            ((0, 1), (1, "2")), ((0, 1), 2), ((0, 1), None), ((0, 1), "12"), ((0, 1), (1, (2,))),
            ((0, 1), (1, [2])), "01", ((0, 1), (1, 10 ** 6000)), {(0, 1): 1, (1, 2): 2},
        ]
        for bags in wrong:
            self.assertEqual(fault(PATH, bags, (-1, 0)), ("form",))

    def test_parents_that_have_not_the_form(self):
        bags = ((0, 1), (1, 2), (2,))
        self.assertIsNone(fault(PATH, bags, (-1, 0, 1)))
        wrong = [
            (), (-1,), (-1, 0), (-1, 0, 1, 2), [-1, 0, 1], (0, 0, 1), (1, 0, 1), (-2, 0, 1),
            (None, 0, 1), ("-1", 0, 1), (-1, -1, 1), (-1, 1, 1), (-1, 2, 1), (-1, 0, 2),
            (-1, 0, 3), (-1, 0, -1), (-1, False, 1), (-1, 0, True), (-1.0, 0, 1), (-1, 0, 1.0),
            (-1, None, 1), (-1, (0,), 1), (-1, [0], 1), {-1: 0}, "012", None, -1, True,
        ]
        for parents in wrong:
            self.assertEqual(fault(PATH, bags, parents), ("form",))

    def test_every_value(self):
        for value in STRANGE:
            self.assertEqual(fault(PATH, value, (-1,)), ("form",))
            self.assertEqual(fault(PATH, ((0, 1, 2),), value), ("form",))
            self.assertEqual(fault(PATH, value, value), ("form",))
            if not isinstance(value, tuple):
                self.assertEqual(fault(PATH, (value,), (-1,)), ("form",))
            if isinstance(value, bool) or not isinstance(value, int):
                self.assertEqual(fault(PATH, ((0, value),), (-1,)), ("form",))
                self.assertEqual(fault(PATH, ((0, 1, 2),), (value,)), ("form",))
                self.assertEqual(fault(PATH, ((0, 1, 2), ()), (-1, value)), ("form",))

    def test_width_of(self):
        self.assertEqual(width_of(((),)), -1)
        self.assertEqual(width_of(((), (0,), ())), 0)
        self.assertEqual(width_of(((0, 1), (1, 2, 3), (3,))), 2)
        self.assertEqual(width_of((tuple(range(60)),)), 59)


class BagsOfTest(unittest.TestCase):
    def assert_bags(self, term, k):
        bags, parents = bags_of(term, k)
        graph, _ = made(term, k)
        self.assertIsNone(fault(graph, bags, parents))
        self.assertLess(width_of(bags), max(1, most_labels(term, k)))
        _, graphs, taken = play(term)
        last = len(term) - 1
        for at, used in enumerate(taken):
            for other in used:
                self.assertEqual(parents[last - other], last - at)
        self.assertEqual(parents[0], -1)
        self.assertEqual(len(bags), len(term))

    def test_example(self):
        bags, parents = bags_of(EXAMPLE, 1)
        self.assertEqual(bags, ((1, 2), (1, 2), (0, 1), (0, 1), (0, 1), (0,), ()))
        self.assertEqual(parents, (-1, 0, 1, 2, 3, 4, 5))

    def test_the_shortest_term(self):
        self.assertEqual(bags_of((EMPTY,), 0), (((),), (-1,)))

    def test_a_join(self):
        term = (
            EMPTY, ("new", 0), ("new", 1), ("forget", 1),
            EMPTY, ("new", 2), ("new", 0), ("edge", 0, 2), ("forget", 2), JOIN, ("new", 1),
        )
        bags, parents = bags_of(term, 2)
        self.assertEqual(parents, (-1, 0, 1, 2, 3, 4, 5, 1, 7, 8, 9))
        self.assertEqual(bags, (
            (0, 3), (0,), (0, 2), (0, 2), (0, 2), (2,), (), (0, 1), (0, 1), (0,), (),
        ))

    def test_bags_of_many_terms(self):
        for k in (0, 1, 2, 3, 6):
            source = random.Random(k + 100)
            for _ in range(40):
                self.assert_bags(some_term(source, k, source.randint(1, 40)), k)

    def test_each_bag_holds_the_vertices_with_labels(self):
        for k in (1, 2, 3):
            source = random.Random(k + 200)
            for _ in range(40):
                term = some_term(source, k, source.randint(1, 30))
                bags, _ = bags_of(term, k)
                taken = operands(term, k)
                _, graphs, _ = play(term)
                for at, step in enumerate(term):
                    held = taken[at][0] if step[0] == "forget" else at
                    self.assertEqual(len(bags[len(term) - 1 - at]), len(graphs[held].labels))

    def test_more_than_60_vertices(self):
        term = (EMPTY,) + (("new", 0), ("forget", 0)) * 100
        bags, parents = bags_of(term, 0)
        self.assertEqual(bags[:4], ((99,), (99,), (98,), (98,)))
        self.assertEqual(bags[-3:], ((0,), (0,), ()))
        self.assertEqual(parents, tuple(range(-1, 200)))

    def test_20000_steps(self):
        term = (EMPTY,) + (("new", 0), ("forget", 0)) * 50
        term = term + (EMPTY, JOIN) * ((20000 - len(term)) // 2)
        bags, parents = bags_of(term, 0)
        self.assertIsNone(fault(made(term, 0)[0], bags, parents))


class TermOfTest(unittest.TestCase):
    def assert_term(self, graph, bags, parents):
        k = max(0, width_of(bags))
        before = picture(graph)
        term, order = term_of(graph, bags, parents, k)
        self.assertEqual((term, order), term_by_the_text(graph, bags, parents))
        self.assertEqual(check_term(term, k), ((), ()))
        found, sources = made(term, k)
        self.assertTrue(same(found, renumbered(graph, list(order))))
        self.assertEqual(sources, (None,) * (k + 1))
        self.assertEqual(picture(graph), before)

    def test_example(self):
        term, order = term_of(PATH, ((0, 1), (1, 2)), (-1, 0), 1)
        self.assertEqual(term, EXAMPLE + (("forget", 0), ("forget", 1)))
        self.assertEqual(order, (2, 1, 0))

    def test_no_vertices(self):
        for k in (0, 1, 12):
            self.assertEqual(term_of(Graph(0, []), ((),), (-1,), k), ((EMPTY,), ()))
        self.assertEqual(term_of(Graph(0, []), ((), (), ()), (-1, 0, 0), 0), ((EMPTY, EMPTY, JOIN), ()))

    def test_edges_ascend_by_their_vertices(self):
        graph = Graph(4, [(0, 3), (1, 2), (1, 3), (0, 1)])
        bags = ((2, 3), (1, 2, 3), (0, 1, 3))
        term, order = term_of(graph, bags, (-1, 0, 1), 2)
        self.assertEqual(term, (
            EMPTY, ("new", 0), ("new", 1), ("new", 2), ("edge", 0, 2), ("edge", 0, 1),
            ("forget", 0), ("new", 0), ("edge", 0, 2), ("edge", 1, 2), ("forget", 2),
            ("forget", 0), ("forget", 1),
        ))
        self.assertEqual(order, (0, 3, 1, 2))

    def test_a_bag_with_two_children(self):
        graph = Graph(4, [(0, 1), (0, 2), (1, 3), (0, 3)])
        term, order = term_of(graph, ((0, 1), (0, 1, 3), (0, 2)), (-1, 0, 0), 2)
        self.assertEqual(term, (
            EMPTY, ("new", 0), ("new", 1), ("new", 2), ("edge", 0, 2), ("edge", 1, 2), ("forget", 2),
            EMPTY, ("new", 0), ("new", 1), ("edge", 0, 1), ("forget", 1), ("new", 1), JOIN,
            ("edge", 0, 1), ("forget", 0), ("forget", 1),
        ))
        self.assertEqual(order, (0, 1, 3, 2))

    def test_least_labels_that_are_not_in_use_in_the_bag(self):
        graph = Graph(5, [])
        bags = ((0, 1, 2), (2,), (0, 2, 4), (1, 3))
        term, order = term_of(graph, bags, (-1, 0, 0, 0), 2)
        self.assertEqual(term, (
            EMPTY, ("new", 2), ("new", 0), ("new", 1),
            EMPTY, ("new", 0), ("new", 1), ("new", 2), ("forget", 1), ("new", 1), JOIN,
            EMPTY, ("new", 0), ("new", 1), ("forget", 0), ("new", 0), ("new", 2), JOIN,
            ("forget", 0), ("forget", 1), ("forget", 2),
        ))
        self.assertEqual(order, (2, 0, 1, 4, 3))

    def test_all_decompositions_of_small_graphs(self):
        for size, many in ((0, 3), (1, 4), (2, 3), (3, 2)):
            for bags in product(every_bag(size), repeat=many):
                for parents in every_parents(many):
                    for graph in every_graph(size):
                        if fault(graph, bags, parents) is None:
                            self.assert_term(graph, bags, parents)

    def test_larger_decompositions(self):
        source = random.Random(11)
        for size in (1, 2, 3, 4, 7):
            for _ in range(60):
                self.assert_term(*some_decomposition(source, size))

    def test_bags_of_terms_and_back(self):
        source = random.Random(12)
        for k in (1, 2, 3):
            for _ in range(20):
                term = some_term(source, k, source.randint(1, 30))
                self.assert_term(made(term, k)[0], *bags_of(term, k))

    def test_13_vertices_in_a_bag(self):
        self.assert_term(full(13), (tuple(range(13)),), (-1,))

    def test_a_greater_k(self):
        first = term_of(PATH, ((0, 1), (1, 2)), (-1, 0), 1)
        for k in (2, 3, 12, 13, 20):
            self.assertEqual(term_of(PATH, ((0, 1), (1, 2)), (-1, 0), k), first)

    def test_bad_bags(self):
        wrong = [
            (((0, 1),), (-1,)), (((0, 1), (2,)), (-1, 0)), (((0, 1), (), (1, 2)), (-1, 0, 1)),
            ((), ()), ([(0, 1), (1, 2)], (-1, 0)), (((0, 1), (1, 2)), [-1, 0]),
            (((0, 1), (1, 2)), (-1, 1)), (((0, 1), (True, 2)), (-1, 0)), (None, None),
        ]
        for bags, parents in wrong:
            with self.subTest(str(bags)), self.assertRaises(BadBags):
                term_of(PATH, bags, parents, 12)

    def test_a_greater_width(self):
        for k, bags in ((0, ((0, 1), (1, 2))), (1, ((0, 1, 2), ())), (1, ((), (0, 1, 2)))):
            with self.assertRaises(BadBags):
                term_of(PATH, bags, (-1, 0), k)
            self.assertEqual(len(term_of(PATH, bags, (-1, 0), k + 1)[1]), 3)

    def test_20000_and_20001_steps(self):
        graph = Graph(2, [])
        bags = ((0,), (0, 1)) + ((0,),) * 6665
        parents = (-1,) + (0,) * 6666
        term, order = term_of(graph, bags, parents, 1)
        self.assertEqual((len(term), order), (20000, (0, 1)))
        self.assertEqual(check_term(term, 1), ((), ()))
        with self.assertRaises(BadBags):
            term_of(Graph(2, [(0, 1)]), bags, parents, 1)
        with self.assertRaises(BadBags):
            term_of(Graph(1, []), ((0,),) * 6668, (-1,) + (0,) * 6667, 1)
        term, _ = term_of(Graph(1, []), ((0,),) * 6667, (-1,) + (0,) * 6666, 1)
        self.assertEqual(len(term), 19998)

    def test_a_very_long_path_of_bags(self):
        bags = ((0, 1),) + ((1,),) * 30000
        term, order = term_of(path(2), bags, tuple(range(-1, 30000)), 1)
        self.assertEqual(term, (
            EMPTY, ("new", 1), ("new", 0), ("edge", 0, 1), ("forget", 0), ("forget", 1),
        ))
        self.assertEqual(order, (1, 0))

    def test_a_circle_of_60(self):
        bags = tuple((0, v, v + 1) for v in range(1, 59))
        self.assert_term(circle(60), bags, tuple(range(-1, 57)))


if __name__ == "__main__":
    unittest.main()
