"""Promises [4.1] to [4.4]: formulas, and what can be told of them."""

import unittest
from itertools import product

from smallwidth.formula import depth, free, is_formula, rank
from term_helpers import STRANGE

SORTS = ("v", "e", "V", "E")
TRUE = ("true",)
EXAMPLE = (
    "some", ("v", 0),
    ("all", ("v", 1), ("or", ("same", ("v", 0), ("v", 1)), ("near", ("v", 0), ("v", 1)))),
)

# For each word, the sorts that may follow.
RIGHT = {
    "true": [()],
    "same": [("v", "v"), ("e", "e")],
    "near": [("v", "v")],
    "ends": [("e", "v")],
    "in": [("v", "V"), ("e", "E")],
    "within": [("V", "V"), ("E", "E")],
}


def nested(many, word="not", inner=TRUE):
    """A formula that is nested so many deep."""
    formula = inner
    for at in range(many):
        if word == "not":
            formula = ("not", formula)
        elif word in ("and", "or"):
            formula = (word, formula, TRUE) if at % 2 else (word, TRUE, formula)
        else:
            formula = (word, ("E", at % 10), formula)
    return formula


class IsFormulaTest(unittest.TestCase):
    def test_example(self):
        self.assertIs(is_formula(EXAMPLE), True)

    def test_atoms_with_all_sorts(self):
        for word in RIGHT:
            for many in range(4):
                for sorts in product(SORTS, repeat=many):
                    for numbers in ((0, 1, 2), (9, 9, 9)):
                        atom = (word,) + tuple(zip(sorts, numbers))
                        self.assertIs(is_formula(atom), sorts in RIGHT[word], atom)

    def test_numbers_of_variables(self):
        for number in range(10):
            for sort in SORTS:
                self.assertTrue(is_formula(("some", (sort, number), TRUE)))
            self.assertTrue(is_formula(("near", ("v", number), ("v", 9 - number))))
            self.assertTrue(is_formula(("in", ("e", number), ("E", number))))
        for number in (-1, 10, 11, 100, 10 ** 6000, True, False, None, "0", 1.0, (1,), [1]):
            for word in ("some", "all"):
                self.assertIs(is_formula((word, ("V", number), TRUE)), False)
            self.assertIs(is_formula(("near", ("v", number), ("v", 0))), False)
            self.assertIs(is_formula(("near", ("v", 0), ("v", number))), False)

    def test_variables_that_are_none(self):
        wrong = [
            ["v", 0], ("v",), ("v", 0, 0), (), (0, "v"), "v0", ("w", 0), ("", 0), ("vV", 0),
            (b"v", 0), (None, 0), (0, 0), (("v", 0),), {"v": 0}, ("eV", 1), (["v"], 0),
        ]
        wrong += [(value, 0) for value in STRANGE]
        wrong += [("v", value) for value in STRANGE if value is True or not isinstance(value, int)]
        for value in wrong + STRANGE:
            for word in ("some", "all"):
                self.assertIs(is_formula((word, value, TRUE)), False)
            for word in ("same", "near", "ends", "in", "within"):
                self.assertIs(is_formula((word, value, ("v", 0))), False)
                self.assertIs(is_formula((word, ("e", 0), value)), False)
            self.assertIs(is_formula(("true", value)), False)

    def test_all_sorts_can_be_bound(self):
        for word in ("some", "all"):
            for sort in SORTS:
                self.assertIs(is_formula((word, (sort, 3), ("near", ("v", 0), ("v", 1)))), True)

    def test_wrong_lengths_and_lists(self):
        near = ("near", ("v", 0), ("v", 1))
        wrong = [
            (), ("not",), ("not", near, near), ("and", near), ("and", near, near, near),
            ("or",), ("or", near), ("or", near, near, near), ("some", ("v", 0)),
            ("some", near), ("some", ("v", 0), near, near), ("all", near, near), ("all",),
            ("some", near, ("v", 0)), ["true"], ["not", near], ("not", list(near)),
            ("and", list(near), near), ("and", near, list(near)), ("some", ["v", 0], near),
            ("some", ("v", 0), list(near)), ("near", ["v", 0], ("v", 1)),
            ("True",), ("xor", near, near), ("every", ("v", 0), near), ("NOT", near),
            (near,), ((near, near),), ("",), "true", b"true", ("nothing", near), ("tru",),
        ]
        for value in wrong:
            self.assertIs(is_formula(value), False, value)

    def test_every_value(self):
        for value in STRANGE:
            self.assertIs(is_formula(value), False)
            self.assertIs(is_formula((value,)), False)
            self.assertIs(is_formula(("not", value)), False)
            self.assertIs(is_formula(("and", value, TRUE)), False)
            self.assertIs(is_formula(("or", TRUE, value)), False)
            self.assertIs(is_formula(("all", ("v", 0), value)), False)
            self.assertIs(is_formula((value, TRUE, TRUE)), False)
            self.assertIs(is_formula((value, ("v", 0), TRUE)), False)

    def test_depths_12_and_13(self):
        for word in ("not", "and", "or", "some", "all"):
            for inner in (TRUE, ("in", ("v", 0), ("V", 0))):
                self.assertIs(is_formula(nested(11, word, inner)), True)
                self.assertIs(is_formula(nested(12, word, inner)), True)
                self.assertIs(is_formula(nested(13, word, inner)), False)
                self.assertIs(is_formula(nested(14, word, inner)), False)

    def test_values_that_are_nested_far_deeper(self):
        for word in ("not", "and", "some"):
            self.assertIs(is_formula(nested(100000, word)), False)
        value = ("not", TRUE)
        for _ in range(100):
            value = ("or", value, value)
        self.assertIs(is_formula(value), False)

    def test_a_wide_formula(self):
        value = EXAMPLE
        for _ in range(9):
            value = ("and", value, value)
        self.assertIs(is_formula(value), True)
        self.assertIs(is_formula(("and", value, value)), False)


class DepthTest(unittest.TestCase):
    def test_example(self):
        self.assertEqual((depth(EXAMPLE), rank(EXAMPLE)), (3, 2))

    def test_atoms(self):
        for word, rows in RIGHT.items():
            for sorts in rows:
                atom = (word,) + tuple((sort, 5) for sort in sorts)
                self.assertEqual((depth(atom), rank(atom)), (0, 0))

    def test_each_word(self):
        for many in range(14):
            for word in ("not", "and", "or"):
                self.assertEqual((depth(nested(many, word)), rank(nested(many, word))), (many, 0))
            for word in ("some", "all"):
                self.assertEqual((depth(nested(many, word)), rank(nested(many, word))), (many, many))

    def test_the_greater_one_counts(self):
        left, right = nested(3, "not"), nested(2, "some")
        for word in ("and", "or"):
            for formula in ((word, left, right), (word, right, left)):
                self.assertEqual((depth(formula), rank(formula)), (4, 2))
        self.assertEqual(depth(("some", ("v", 0), ("not", TRUE))), 2)
        self.assertEqual(rank(("some", ("v", 0), ("not", ("all", ("v", 0), TRUE)))), 2)


class FreeTest(unittest.TestCase):
    def test_atoms(self):
        self.assertEqual(free(TRUE), [])
        self.assertEqual(free(("near", ("v", 1), ("v", 0))), [("v", 0), ("v", 1)])
        self.assertEqual(free(("same", ("e", 1), ("e", 1))), [("e", 1)])
        self.assertEqual(free(("ends", ("e", 1), ("v", 0))), [("e", 1), ("v", 0)])
        self.assertEqual(free(("in", ("v", 0), ("V", 0))), [("V", 0), ("v", 0)])
        self.assertEqual(free(("within", ("E", 9), ("E", 2))), [("E", 2), ("E", 9)])

    def test_ascending_order(self):
        formula = ("and", ("in", ("v", 0), ("V", 2)), ("in", ("e", 9), ("E", 3)))
        expected = [("E", 3), ("V", 2), ("e", 9), ("v", 0)]
        self.assertEqual(free(formula), expected)
        self.assertEqual(free(("or", formula[2], ("not", formula[1]))), expected)

    def test_bound_variables(self):
        self.assertEqual(free(EXAMPLE), [])
        self.assertEqual(free(EXAMPLE[2]), [("v", 0)])
        near = ("near", ("v", 0), ("v", 1))
        for word in ("some", "all"):
            self.assertEqual(free((word, ("v", 1), near)), [("v", 0)])
            self.assertEqual(free((word, ("V", 1), near)), [("v", 0), ("v", 1)])
            self.assertEqual(free((word, ("v", 2), near)), [("v", 0), ("v", 1)])
            self.assertEqual(free((word, ("v", 0), TRUE)), [])

    def test_bound_inside_and_free_outside(self):
        inside = ("some", ("v", 0), ("in", ("v", 0), ("V", 0)))
        outside = ("in", ("v", 0), ("V", 1))
        for formula in (("and", inside, outside), ("or", outside, inside)):
            self.assertEqual(free(formula), [("V", 0), ("V", 1), ("v", 0)])
            self.assertEqual(free(("all", ("v", 0), formula)), [("V", 0), ("V", 1)])

    def test_a_variable_may_be_bound_several_times(self):
        inner = ("some", ("v", 0), ("near", ("v", 0), ("v", 1)))
        formula = ("all", ("v", 0), ("and", inner, ("same", ("v", 0), ("v", 2))))
        self.assertIs(is_formula(formula), True)
        self.assertEqual(free(formula), [("v", 1), ("v", 2)])
        self.assertEqual(free(("some", ("v", 1), ("all", ("v", 1), inner))), [])

    def test_what_is_returned_is_new(self):
        formula = ("near", ("v", 1), ("v", 0))
        free(formula).clear()
        self.assertEqual(free(formula), [("v", 0), ("v", 1)])
        self.assertIsInstance(free(EXAMPLE), list)


if __name__ == "__main__":
    unittest.main()
