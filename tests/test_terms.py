"""Promises [2.1] to [2.5] and, for terms, [2.11]."""

import random
import unittest

from graph_helpers import picture
from term_helpers import (
    EMPTY, EXAMPLE, JOIN, STRANGE, Strange, every_tuple_of_steps, play, some_term,
)
from smallwidth.errors import BadTerm, TooLarge
from smallwidth.graph import same
from smallwidth.terms import check_term, ended, joined, made, most_labels, operands

def some_terms(k):
    """Many terms for k, the same ones each time."""
    source = random.Random(k)
    return [some_term(source, k, source.randint(1, 30)) for _ in range(60)]


class CheckTest(unittest.TestCase):
    def assert_wrong(self, term, k, index):
        with self.assertRaises(BadTerm) as caught:
            check_term(term, k)
        self.assertEqual(caught.exception.index, index)

    def test_example(self):
        self.assertEqual(check_term(EXAMPLE, 1), ((0, 1), ((0, 1),)))
        self.assertEqual(check_term(EXAMPLE[:3], 1), ((0, 1), ()))
        self.assertEqual(check_term(EXAMPLE[:5], 1), ((1,), ()))

    def test_all_tuples_of_few_steps(self):
        for k, most in ((0, 6), (1, 5), (2, 3)):
            for term in every_tuple_of_steps(k, most):
                wrong, graphs, _ = play(term)
                if wrong is None:
                    self.assertEqual(check_term(term, k), graphs[-1].frame())
                else:
                    self.assert_wrong(term, k, wrong)

    def test_larger_terms_with_a_step_left_out_or_doubled(self):
        for k in (1, 2, 3, 12):
            for term in some_terms(k):
                wrong, graphs, _ = play(term)
                self.assertEqual(check_term(term, k), graphs[-1].frame())
                for at in range(len(term)):
                    for other in (term[:at] + term[at + 1:], term[:at + 1] + term[at:]):
                        wrong, graphs, _ = play(other)
                        if wrong is None:
                            self.assertEqual(check_term(other, k), graphs[-1].frame())
                        else:
                            self.assert_wrong(other, k, wrong)

    def test_joins_whose_labels_or_edges_do_not_fit(self):
        two = (EMPTY, ("new", 0), ("new", 1))
        edge = two + (("edge", 0, 1),)
        self.assertEqual(check_term(two + two + (JOIN,), 1), ((0, 1), ()))
        self.assertEqual(check_term(edge + two + (JOIN,), 1), ((0, 1), ((0, 1),)))
        self.assertEqual(check_term(two + edge + (JOIN,), 1), ((0, 1), ((0, 1),)))
        self.assert_wrong(edge + edge + (JOIN,), 1, 8)
        self.assert_wrong(two + two[:2] + (JOIN,), 1, 5)
        self.assert_wrong(two[:2] + (EMPTY, ("new", 1), JOIN), 1, 4)
        self.assert_wrong((EMPTY,) + two + (JOIN,), 1, 4)
        self.assertEqual(check_term((EMPTY, EMPTY, JOIN), 0), ((), ()))

    def test_edges(self):
        three = (EMPTY, ("new", 0), ("new", 1), ("new", 2))
        edges = (("edge", 1, 2), ("edge", 0, 1), ("edge", 0, 2))
        pairs = ((0, 1), (0, 2), (1, 2))
        self.assertEqual(check_term(three + edges, 2), ((0, 1, 2), pairs))
        for edge in edges:
            self.assert_wrong(three + edges + (edge,), 2, 7)
        again = three + edges + (("forget", 1), ("new", 1), ("edge", 0, 1))
        self.assertEqual(check_term(again, 2), ((0, 1, 2), ((0, 1), (0, 2))))
        self.assert_wrong(again + (("edge", 0, 2),), 2, 10)

    def test_pairs_of_a_join_ascend(self):
        three = (EMPTY, ("new", 0), ("new", 1), ("new", 2))
        lower = three + (("edge", 0, 2), ("edge", 1, 2))
        upper = three + (("edge", 0, 1),)
        for first, second in ((lower, upper), (upper, lower)):
            found = check_term(first + second + (JOIN,), 2)
            self.assertEqual(found, ((0, 1, 2), ((0, 1), (0, 2), (1, 2))))

    def test_labels_ascend_as_numbers_do(self):
        labels = (10, 2, 12, 0, 9)
        term = (EMPTY,) + tuple(("new", i) for i in labels) + (("edge", 2, 10), ("edge", 2, 9))
        self.assertEqual(check_term(term, 12), ((0, 2, 9, 10, 12), ((2, 9), (2, 10))))

    def test_number_of_labels(self):
        for k in range(13):
            self.assertEqual(check_term((EMPTY, ("new", k)), k), ((k,), ()))
            self.assert_wrong((EMPTY, ("new", k + 1)), k, 1)
            for step in (("edge", 0, k + 1), ("forget", k + 1)):
                self.assert_wrong((EMPTY, ("new", 0), step), k, 2)
        for k in (-1, -5, 13, 14, 10 ** 6000, True, False, None, 1.0, "1", (1,), Strange()):
            self.assert_wrong((EMPTY,), k, -1)
            self.assert_wrong((), k, -1)
            self.assert_wrong((EMPTY, ("new", 0), ("no",)), k, -1)

    def test_values_that_are_no_tuples(self):
        for value in STRANGE:
            if not isinstance(value, tuple):
                for k in (0, 1, 12, 13, None):
                    self.assert_wrong(value, k, -1)
        self.assert_wrong([EMPTY], 0, -1)

    def test_members_that_are_no_steps(self):
        wrong = [
            [], ["empty"], ["new", 0], ("empty", 0), ("new",), ("new", 0, 1), ("new", "0"),
            ("new", -1), ("new", 2), ("new", None), ("new", (1,)), ("new", [1]), ("new", True),
            ("new", False), ("new", 1.0), ("New", 1), ("forget",), ("forget", 0, 1),
            ("forget", True), ("forget", False), ("forget", -1), ("forget", 2), ("edge",),
            ("edge", 0), ("edge", 0, 1, 2), ("edge", 1, 0), ("edge", 0, 0), ("edge", 0, 2),
            ("edge", -1, 0), ("edge", False, 1), ("edge", 0, True), ("edge", False, True),
            ("edge", (0, 1)), ("edge", [0], 1), ("edge", 0, 1.0), ("join", 0), ("joins",),
            ("forgets", 0), (b"empty",), (0,), ((),), (EMPTY,), ("",), (("empty",),),
            ("new", 10 ** 6000), ("edge", 0, Strange()), (Strange(),), ("new", Strange()),
            ("some", 0), ("with", 0),
        ]
        for step in wrong + STRANGE:
            for before in ((EMPTY, ("new", 0)), (EMPTY, EMPTY), EXAMPLE):
                self.assert_wrong(before + (step,), 1, len(before))
                self.assert_wrong(before + (step, ("no",)), 1, len(before))
            self.assert_wrong((step,) + EXAMPLE, 1, 0)

    def test_labels_in_use_or_not(self):
        self.assert_wrong((EMPTY, ("new", 0), ("new", 0)), 0, 2)
        self.assert_wrong((EMPTY, ("forget", 0)), 0, 1)
        self.assert_wrong((EMPTY, ("new", 0), ("forget", 0), ("forget", 0)), 0, 3)
        self.assert_wrong((EMPTY, ("new", 0), ("edge", 0, 1)), 1, 2)
        self.assert_wrong((EMPTY, ("new", 1), ("edge", 0, 1)), 1, 2)

    def test_graphs_on_the_stack(self):
        self.assert_wrong((), 0, 0)
        self.assert_wrong((EMPTY, EMPTY), 0, 2)
        self.assert_wrong((EMPTY, EMPTY, EMPTY, JOIN), 0, 4)
        for step in (("new", 0), ("edge", 0, 1), ("forget", 0), JOIN):
            self.assert_wrong((step,), 1, 0)
        self.assert_wrong((EMPTY, JOIN), 0, 1)
        self.assert_wrong((EMPTY, EMPTY, JOIN, JOIN), 0, 3)

    def test_number_of_steps(self):
        pairs = (("new", 0), ("forget", 0)) * 10000
        self.assertEqual(check_term((EMPTY,) + pairs[:19999], 0), ((0,), ()))
        self.assert_wrong((EMPTY,) + pairs[:20000], 0, -1)
        self.assert_wrong((EMPTY,) * 20000, 0, 20000)
        self.assert_wrong((EMPTY,) * 20001, 0, -1)
        self.assert_wrong((("no",),) * 20001, 0, -1)
        self.assertEqual(check_term((EMPTY,) + (EMPTY, JOIN) * 9999, 0), ((), ()))
        self.assertEqual(check_term((EMPTY,) * 10000 + (JOIN,) * 9999, 0), ((), ()))


class MadeTest(unittest.TestCase):
    def assert_made(self, term, k):
        _, graphs, _ = play(term)
        found, sources = made(term, k)
        self.assertEqual(found.size, graphs[-1].many)
        edges = sorted(tuple(sorted(edge)) for edge in graphs[-1].edges)
        self.assertEqual(found.edges, tuple(edges))
        labels = graphs[-1].labels
        self.assertEqual(sources, tuple(labels.get(i) for i in range(k + 1)))
        self.assertIsInstance(sources, tuple)

    def test_example(self):
        graph, sources = made(EXAMPLE, 1)
        self.assertEqual((graph.size, graph.edges), (3, ((0, 1), (1, 2))))
        self.assertEqual(sources, (2, 1))
        self.assertEqual(made((EMPTY,), 2)[1], (None, None, None))

    def test_numbers_at_a_join(self):
        lower = (EMPTY, ("new", 1), ("forget", 1), ("new", 0), ("new", 1))
        upper = (EMPTY, ("new", 1), ("new", 0), ("edge", 0, 1), ("new", 2), ("edge", 1, 2), ("forget", 2))
        graph, sources = made(joined(lower, upper), 2)
        self.assertEqual((graph.size, graph.edges), (4, ((1, 2), (2, 3))))
        self.assertEqual(sources, (1, 2, None))

    def test_all_terms_with_few_steps(self):
        for k, most in ((0, 7), (1, 5), (2, 4)):
            for term in every_tuple_of_steps(k, most):
                if play(term)[0] is None:
                    self.assert_made(term, k)

    def test_larger_terms(self):
        for k in (1, 2, 3, 12):
            for term in some_terms(k):
                self.assert_made(term, k)

    def test_joins_within_joins(self):
        one = (EMPTY, ("new", 0), ("new", 1), ("edge", 0, 1), ("forget", 1), ("new", 1))
        for many in (2, 3, 5, 9):
            left = right = one
            for _ in range(many):
                left = joined(left, one)
                right = joined(one, right)
            self.assert_made(left, 1)
            self.assert_made(right, 1)
            self.assert_made(joined(left, right), 1)

    def test_60_and_61_vertices(self):
        pairs = (("new", 0), ("forget", 0)) * 61
        self.assertEqual(made((EMPTY,) + pairs[:120], 0)[0].size, 60)
        self.assertEqual(made((EMPTY,) + pairs[:119], 0)[1], (59,))
        for many in (121, 122):
            with self.assertRaises(TooLarge):
                made((EMPTY,) + pairs[:many], 0)
        many = (EMPTY,) + pairs[:60]
        self.assertEqual(made(joined(many, many), 0)[0].size, 60)
        with self.assertRaises(TooLarge):
            made(joined(many, many[:60] + (("forget", 0), ("new", 1), ("forget", 1)) + pairs[:2]), 1)

    def test_vertices_in_both_graphs_of_a_join_count_once(self):
        half = (EMPTY, ("new", 1)) + (("new", 0), ("forget", 0)) * 30
        self.assertEqual(made(joined(half, half[:60]), 1)[0].size, 60)
        with self.assertRaises(TooLarge):
            made(joined(half, half), 1)

    def test_a_term_with_20000_steps(self):
        term = (EMPTY,) + (EMPTY, ("new", 0), ("forget", 0), JOIN) * 59
        term += (EMPTY, JOIN) * ((20000 - len(term)) // 2)
        self.assertEqual(made(term, 0)[0].size, 59)

    def test_what_is_returned_is_new(self):
        first, _ = made(EXAMPLE, 1)
        before = picture(first)
        first.near(1).clear()
        second, _ = made(EXAMPLE, 1)
        self.assertIsNot(first, second)
        self.assertTrue(same(first, second))
        self.assertEqual(picture(first), before)


class OtherFunctionsTest(unittest.TestCase):
    def test_operands(self):
        term = (EMPTY, EMPTY, ("new", 0), ("forget", 0), JOIN, EMPTY, JOIN)
        expected = [(), (), (1,), (2,), (0, 3), (), (4, 5)]
        self.assertEqual(operands(term, 0), expected)
        self.assertEqual(operands(EXAMPLE, 1), [(), (0,), (1,), (2,), (3,), (4,), (5,)])

    def test_operands_of_many_terms(self):
        for k in (1, 2, 3):
            for term in some_terms(k):
                self.assertEqual(operands(term, k), play(term)[2])

    def test_operands_are_new(self):
        operands(EXAMPLE, 1).clear()
        self.assertEqual(len(operands(EXAMPLE, 1)), 7)

    def test_ended(self):
        self.assertEqual(ended(EXAMPLE, 1), EXAMPLE + (("forget", 0), ("forget", 1)))
        self.assertEqual(ended((EMPTY,), 1), (EMPTY,))
        term = (EMPTY, ("new", 10), ("new", 2))
        self.assertEqual(ended(term, 12), term + (("forget", 2), ("forget", 10)))

    def test_ended_of_many_terms(self):
        for k in (1, 2, 3):
            for term in some_terms(k):
                more = tuple(("forget", label) for label in sorted(play(term)[1][-1].labels))
                self.assertEqual(ended(term, k), term + more)
                self.assertEqual(check_term(ended(term, k), k), ((), ()))

    def test_joined(self):
        self.assertEqual(joined((EMPTY,), EXAMPLE), (EMPTY,) + EXAMPLE + (JOIN,))
        self.assertEqual(joined(EXAMPLE, (EMPTY,)), EXAMPLE + (EMPTY, JOIN))
        self.assertEqual(joined((), ()), (JOIN,))

    def test_most_labels(self):
        self.assertEqual(most_labels((EMPTY,), 0), 0)
        self.assertEqual(most_labels(EXAMPLE, 1), 2)
        self.assertEqual(most_labels(EXAMPLE + (("forget", 0), ("forget", 1)), 1), 2)
        term = (EMPTY, ("new", 0), ("new", 2), ("forget", 0), ("forget", 2), EMPTY, JOIN)
        self.assertEqual(most_labels(term, 2), 2)
        whole = (EMPTY,) + tuple(("new", label) for label in range(13))
        self.assertEqual(most_labels(whole, 12), 13)

    def test_most_labels_of_many_terms(self):
        for k in (1, 2, 3):
            for term in some_terms(k):
                many = max(len(graph.labels) for graph in play(term)[1])
                self.assertEqual(most_labels(term, k), many)

    def test_beyond_the_limits_only_check_term_raises_an_error(self):
        long = (EMPTY,) + (("new", 0), ("forget", 0)) * 29 + (EMPTY, JOIN) * 10000
        self.assertEqual(made(long, 0)[0].size, 29)
        self.assertEqual(most_labels(long, 0), 1)
        self.assertEqual(ended(long, 0), long)
        self.assertEqual(len(operands(long, 0)), len(long))
        wide = (EMPTY, ("new", 13))
        self.assertEqual(made(wide, 13)[1], (None,) * 13 + (0,))
        self.assertEqual(ended(wide, 13), wide + (("forget", 13),))
        self.assertEqual(most_labels(wide, 13), 1)


if __name__ == "__main__":
    unittest.main()
