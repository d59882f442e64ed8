"""Promises [6.1] to [6.7] and [6.11]: tables of kinds and classes."""

import unittest
from random import Random
from unittest import mock

from smallwidth import kinds
from smallwidth.errors import BadTerm, BadValues, BadWidth, NoSuchClass, TooMany
from smallwidth.formula import rank
from smallwidth.frames import frame_after
from smallwidth.known import colourable, connected, dominating, independent, matching
from smallwidth.states import term_state
from smallwidth.tables import Table, parting
from smallwidth.terms import check_term, made
from smallwidth.truth import holds
from table_helpers import (
    CENTRE, EDGE, EDGES, FALSE, KERNEL, LONELY, PERFECT, SENTENCES, SET, SOME, TRIANGLE, TRUE,
    TWO, PlainKinds, some_sentence, steps_in_order,
)
from term_helpers import EMPTY, JOIN, STRANGE, some_term

X, Y = ("v", 0), ("v", 1)


def apart_at_once(table, c, d):
    return table.frame(c) == table.frame(d) and table.holds(c) != table.holds(d)


def moved(table, c, move):
    """The class behind a move of [6.7], or None."""
    if move[0] == "with":
        return table.both(c, move[1])
    return table.after(c, move)


def fewest_moves(table):
    """For each two classes that moves can part, how many are needed."""
    moves = steps_in_order(table.k) + [("with", e) for e in range(table.size)]
    pairs = [(c, d) for c in range(table.size) for d in range(c)
             if table.frame(c) == table.frame(d)]
    found = {pair: 0 for pair in pairs if apart_at_once(table, *pair)}
    many = 0
    while len(found) < len(pairs):
        many += 1
        before = dict(found)
        for c, d in pairs:
            if (c, d) not in found:
                ends = ((moved(table, c, move), moved(table, d, move)) for move in moves)
                ends = [(max(end), min(end)) for end in ends if None not in end]
                if any(end in before for end in ends):
                    found[c, d] = many
        if found == before:
            raise AssertionError("two classes cannot be parted")
    return found


class TableTest(unittest.TestCase):
    def check_table(self, formula, k):
        plain = PlainKinds(formula, k)
        table = Table(formula, k)
        self.assertEqual(table.formula, formula)
        self.assertEqual(table.k, k)
        self.assertEqual(table.kinds, len(plain.terms))
        classes = plain.classes()
        self.assertEqual(table.size, max(classes) + 1)
        for at, c in enumerate(classes):
            self.assertEqual(table.of(plain.terms[at]), c)
            self.assertEqual(table.frame(c), plain.graphs[at].frame())
            self.assertIs(table.holds(c), plain.holds(at))
            for step in plain.steps:
                behind = plain.behind.get((at, step))
                expected = None if behind is None else classes[behind]
                self.assertEqual(table.after(c, step), expected)
            for other, d in enumerate(classes):
                both = plain.joins.get((at, other))
                self.assertEqual(table.both(c, d), None if both is None else classes[both])

    def test_known_sentences(self):
        for formula in SENTENCES:
            for k in (0, 1):
                self.check_table(formula, k)

    def test_two(self):
        for formula in (TRUE, SOME, EDGE, TWO, LONELY, connected(), colourable(1), TRIANGLE):
            self.check_table(formula, 2)

    def test_three(self):
        self.check_table(SOME, 3)
        self.check_table(EDGE, 3)
        self.assertEqual(Table(SOME, 3).kinds, 114)
        self.check_frames(Table(SOME, 3))

    def check_frames(self, table):
        for c in range(table.size):
            for step in steps_in_order(table.k):
                behind = table.after(c, step)
                expected = frame_after(step, [table.frame(c)])
                self.assertEqual(None if behind is None else table.frame(behind), expected)
            for d in range(c + 1):
                both = table.both(c, d)
                expected = frame_after(JOIN, [table.frame(c), table.frame(d)])
                self.assertEqual(None if both is None else table.frame(both), expected)
                self.assertEqual(both, table.both(d, c))

    def test_chosen_sentences(self):
        source = Random(83)
        tried = 0
        while tried < 40:
            formula = some_sentence(source, source.randrange(2, 5))
            if rank(formula) > 3:
                continue
            k = source.randrange(2)
            if Table(formula, k).kinds > 40:
                continue
            tried += 1
            self.check_table(formula, k)

    def test_example(self):
        table = Table(SOME, 0)
        self.assertEqual((table.kinds, table.size), (3, 3))
        self.assertEqual([table.frame(c) for c in range(3)], [((), ()), ((0,), ()), ((), ())])
        self.assertEqual([table.holds(c) for c in range(3)], [False, True, True])
        self.assertEqual([table.after(c, ("new", 0)) for c in range(3)], [1, None, 1])
        self.assertEqual([table.after(c, ("forget", 0)) for c in range(3)], [None, 2, None])
        self.assertEqual(
            [[table.both(c, d) for d in range(3)] for c in range(3)],
            [[0, None, 2], [None, 1, None], [2, None, 2]],
        )
        terms = [(EMPTY,), (EMPTY, ("new", 0)), (EMPTY, ("new", 0), ("forget", 0))]
        self.assertEqual([table.of(term) for term in terms], [0, 1, 2])
        kinds = [term_state(SOME, term, 0)[1] for term in terms]
        self.assertEqual(kinds, [("many", ((-1, ("yes",)),)), ("yes",), ("yes",)])

    def test_going_along_terms(self):
        source = Random(89)
        for formula, k in ((connected(), 2), (PERFECT, 1), (CENTRE, 2), (colourable(2), 2)):
            table = Table(formula, k)
            for _ in range(60):
                term = some_term(source, k, source.randrange(1, 25))
                stack = []
                for step in term:
                    if step == EMPTY:
                        stack.append(table.of((EMPTY,)))
                    elif step == JOIN:
                        upper = stack.pop()
                        stack.append(table.both(stack.pop(), upper))
                    else:
                        stack.append(table.after(stack.pop(), step))
                c = table.of(term)
                self.assertEqual(stack, [c])
                self.assertEqual(table.frame(c), check_term(term, k))
                graph, _ = made(term, k)
                if graph.size <= 6 and len(graph.edges) <= 10:
                    self.assertIs(table.holds(c), holds(graph, formula, {}))

    def test_long_terms(self):
        table = Table(connected(), 1)
        path = [EMPTY, ("new", 0)]
        for _ in range(4000):
            path += [("new", 1), ("edge", 0, 1), ("forget", 0),
                     ("new", 0), ("edge", 0, 1), ("forget", 1)]
        self.assertEqual(len(path) > 20000, True)
        with self.assertRaises(BadTerm):
            table.of(tuple(path))
        self.assertIs(table.holds(table.of(tuple(path[:19994]))), True)


class ErrorsTest(unittest.TestCase):
    def test_no_sentence(self):
        for formula in (
            ("same", X, X), ("some", X, ("near", X, Y)), independent(SET), matching(EDGES),
            ("and", SOME, ("within", SET, SET)),
        ):
            for k in (0, 3, -1, 4, True):
                with self.assertRaises(BadValues):
                    Table(formula, k)

    def test_width_out_of_range(self):
        for k in (-1, 4, 5, 60, 10 ** 6000, True, False, None, "1", 1.0, (1,), [0]):
            with self.assertRaises(BadWidth):
                Table(SOME, k)
            with self.assertRaises(BadWidth):
                Table(colourable(3), k)

    def test_too_many_kinds(self):
        for formula, k in ((colourable(3), 2), (KERNEL, 2), (PERFECT, 3), (CENTRE, 3)):
            with self.assertRaises(TooMany):
                Table(formula, k)

    def test_most_kinds(self):
        self.assertEqual(kinds.MOST_KINDS, 1500)
        for formula, k in ((SOME, 0), (TWO, 1), (connected(), 2)):
            many = Table(formula, k).kinds
            with mock.patch.object(kinds, "MOST_KINDS", many):
                self.assertEqual(Table(formula, k).kinds, many)
            with mock.patch.object(kinds, "MOST_KINDS", many - 1):
                with self.assertRaises(TooMany):
                    Table(formula, k)

    def test_of_what_is_no_term(self):
        table = Table(SOME, 1)
        for value in STRANGE + [(EMPTY, EMPTY), (JOIN,), (EMPTY, ("new", 2))]:
            with self.assertRaises(BadTerm):
                table.of(value)
        with self.assertRaises(BadTerm) as caught:
            table.of((EMPTY, ("new", 1), ("new", 0), ("edge", 0, 1), ("edge", 0, 1)))
        self.assertEqual(caught.exception.index, 4)

    def test_no_such_class(self):
        table = Table(SOME, 0)
        wrong = [-1, 3, 4, 10 ** 6000, True, False]
        wrong += [value for value in STRANGE if not isinstance(value, int)]
        for value in wrong:
            for ask in (
                lambda: table.frame(value), lambda: table.holds(value),
                lambda: table.after(value, ("new", 0)), lambda: table.after(value, ("new", 5)),
                lambda: table.both(value, 0), lambda: table.both(0, value),
                lambda: parting(table, value, 0), lambda: parting(table, 0, value),
                lambda: parting(table, value, value),
            ):
                with self.assertRaises(NoSuchClass):
                    ask()

    def test_steps_that_cannot_be_taken(self):
        table = Table(connected(), 1)
        source = table.of((EMPTY, ("new", 0)))
        for step in (
            ("new", 0), ("new", 2), ("edge", 0, 1), ("edge", 0, 2), ("edge", 1, 2), ("forget", 1),
            ("forget", 2), ("new", -1), ("edge", 1, 0), ("edge", 0, 0), ("new", True),
            ("forget", False), EMPTY, JOIN, ("with", 0), ("new",), ("new", 0, 1),
        ):
            self.assertIsNone(table.after(source, step), step)
        self.assertIsNotNone(table.after(source, ("new", 1)))
        self.assertIsNotNone(table.after(source, ("forget", 0)))

    def test_objects_have_their_own_lists(self):
        table = Table(TWO, 1)
        self.assertIsInstance(table.frame(0), tuple)
        moves = parting(table, 0, table.of((EMPTY, ("new", 0), ("forget", 0))))
        before = list(moves)
        moves.clear()
        again = parting(table, 0, table.of((EMPTY, ("new", 0), ("forget", 0))))
        self.assertEqual(again, before)


class PartingTest(unittest.TestCase):
    def check_all_pairs(self, table):
        fewest = fewest_moves(table)
        for c in range(table.size):
            for d in range(table.size):
                moves = parting(table, c, d)
                if c == d or table.frame(c) != table.frame(d):
                    self.assertIsNone(moves)
                    continue
                self.assertEqual(len(moves), fewest[max(c, d), min(c, d)])
                first, second = c, d
                for move in moves:
                    self.assertIn(move[0], ("new", "edge", "forget", "with"))
                    first, second = moved(table, first, move), moved(table, second, move)
                    self.assertIsNotNone(first)
                    self.assertIsNotNone(second)
                self.assertNotEqual(table.holds(first), table.holds(second))

    def test_known_sentences(self):
        for formula in SENTENCES:
            self.check_all_pairs(Table(formula, 0))
            self.check_all_pairs(Table(formula, 1))
        for formula in (connected(), LONELY, TRIANGLE):
            self.check_all_pairs(Table(formula, 2))

    def test_by_hand(self):
        table = Table(TWO, 0)
        none, one, two = [
            table.of((EMPTY, *(("new", 0), ("forget", 0)) * many)) for many in range(3)
        ]
        self.assertEqual(parting(table, one, two), [])
        self.assertEqual(parting(table, none, two), [])
        moves = parting(table, none, one)
        self.assertEqual(len(moves), 1)
        self.assertIn(moves[0], [("new", 0), ("with", one)])
        self.assertIsNone(parting(table, none, none))
        self.assertIsNone(parting(table, none, table.of((EMPTY, ("new", 0)))))

    def test_everything_is_needed_for_nothing(self):
        for formula in (TRUE, FALSE):
            table = Table(formula, 2)
            self.assertEqual(table.size, 18)
            for c in range(table.size):
                for d in range(table.size):
                    self.assertIsNone(parting(table, c, d))


if __name__ == "__main__":
    unittest.main()
