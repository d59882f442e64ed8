"""Promises [4.9] and [4.10]: texts of formulas."""

import re
import unittest
from random import Random

from smallwidth.errors import BadFormula
from smallwidth.formula import depth, is_formula
from smallwidth.formulatext import formula_of, formula_text
from smallwidth.graph import Graph
from smallwidth.known import colourable, connected, dominating, matching
from smallwidth.truth import holds
from state_helpers import some_formula

X, Y = ("v", 0), ("v", 1)
TRUE = ("true",)
EXAMPLE = "some v0 (all v1 ((v0 = v1 | v0 ~ v1)))"
NUMBERS = tuple(range(10))
CHARACTERS = " ()!&|=~:<trueinsomalvVeE0123456789\n\tx-_#" + "\u0661\u00b2\uff10\u00e9"

TEXTS = {
    "true": TRUE,
    "v0 = v1": ("same", X, Y),
    "e1 = e1": ("same", ("e", 1), ("e", 1)),
    "v0 ~ v9": ("near", X, ("v", 9)),
    "e3 : v4": ("ends", ("e", 3), ("v", 4)),
    "v0 in V0": ("in", X, ("V", 0)),
    "e0 in E7": ("in", ("e", 0), ("E", 7)),
    "V0 <= V1": ("within", ("V", 0), ("V", 1)),
    "E2 <= E2": ("within", ("E", 2), ("E", 2)),
    "!(true)": ("not", TRUE),
    "(true & v0 = v1)": ("and", TRUE, ("same", X, Y)),
    "(v0 ~ v1 | true)": ("or", ("near", X, Y), TRUE),
    "some V3 (true)": ("some", ("V", 3), TRUE),
    "all e9 (e9 in E0)": ("all", ("e", 9), ("in", ("e", 9), ("E", 0))),
    "some v1 (!(all E0 (true)))": ("some", Y, ("not", ("all", ("E", 0), TRUE))),
    "((true & true) | !((true | true)))": (
        "or", ("and", TRUE, TRUE), ("not", ("or", TRUE, TRUE)),
    ),
}

WRONG = [
    "", " ", "\n", "tru", "true ", " true", "true\n", "TRUE", "True", "truetrue", "(true)",
    "!true", "! (true)", "!( true)", "!(true )", "!(true", "!true)", "!()", "()", "(true & )",
    "(true &true)", "(true& true)", "(true  & true)", "(true &  true)", "( true & true)",
    "(true & true )", "(true & true", "true & true", "(true & true & true)", "(true && true)",
    "(true and true)", "(true & true | true)", "(true, true)", "(true = true)",
    "v0=v1", "v0 =v1", "v0= v1", "v0  = v1", "v0 =  v1", "v0 = v1 ", " v0 = v1", "v0 == v1",
    "v0 = v10", "v10 = v0", "v = v1", "v0 = v", "v00 = v1", "v-1 = v0", "v0 = V1", "V0 = V1",
    "E0 = E1", "e0 = v0", "v0 = e0", "V0 = v0", "w0 = w1", "0v = 1v", "v 0 = v1", "V0 ~ v1",
    "e0 ~ e1", "v0 ~ e1", "E0 ~ V1", "v0 : e0", "e0 : e1", "v0 : v1", "e0 : V0", "E0 : v0",
    "v0 in E0", "e0 in V0", "V0 in V1", "E0 in E1", "v0 in v1", "v0  in V0", "v0 in  V0",
    "v0inV0", "V0 <= E0", "E0 <= V0", "v0 <= V0", "V0 < V1", "V0 =< V1", "V0 <=V1", "V0 <= v1",
    "some v0 true", "some v0(true)", "some v0  (true)", "some v0 ( true)", "some v0 (true )",
    "somev0 (true)", "some  v0 (true)", "some v0 (true", "some v0 ()", "some v0", "some",
    "some v10 (true)", "some w0 (true)", "some (true)", "some v0 v1 (true)", "Some v0 (true)",
    "all v0 true", "all v0(true)", "all  v0 (true)", "allv0 (true)", "all v0 (true))", "all",
    "any v0 (true)", "exists v0 (true)", "all v\u0661 (true)", "v\u00b2 = v1", "v0 = v\uff11",
    "all v0 (true)\n", "all v0\t(true)", "all v0 (true)x", "v0", "V0", "v0 ", "!", "(", ")",
    "!(", "((", "))", "some ", "all ", "some v", "some v0 (", "v0 =", "v0 = ", "v0 in", "e0 : v",
]


def nested_text(word, many):
    """The text of a formula that is nested so deep."""
    before, after = {
        "not": ("!(", ")"), "and": ("(", " & true)"), "or": ("(true | ", ")"),
        "some": ("some v0 (", ")"), "all": ("all E9 (", ")"),
    }[word]
    return before * many + "true" + after * many


def texts_near(text):
    """The texts in which one character is left out, doubled or replaced."""
    found = set()
    for at in range(len(text)):
        found.add(text[:at] + text[at + 1:])
        found.add(text[:at] + text[at] * 2 + text[at + 1:])
        for character in CHARACTERS:
            found.add(text[:at] + character + text[at + 1:])
    found.discard(text)
    return sorted(found)


ATOM = re.compile(
    r"true|v[0-9] [=~] v[0-9]|e[0-9] = e[0-9]|e[0-9] : v[0-9]|v[0-9] in V[0-9]"
    r"|e[0-9] in E[0-9]|V[0-9] <= V[0-9]|E[0-9] <= E[0-9]"
)


def is_text(text):
    """Whether it is a text, by putting "@" for its innermost formulas."""
    if "@" in text:
        return False
    text = ATOM.sub("@", text)
    for _ in range(40):
        text = re.sub(r"!\(@\)|\(@ [&|] @\)|(some|all) [vVeE][0-9] \(@\)", "@", text)
    return text == "@"


class TextsTest(unittest.TestCase):
    def test_texts_of_all_forms(self):
        for text, formula in TEXTS.items():
            self.assertEqual(formula_text(formula), text)
            self.assertEqual(formula_of(text), formula)

    def test_example(self):
        formula = formula_of(EXAMPLE)
        self.assertEqual(
            formula,
            ("some", X, ("all", Y, ("or", ("same", X, Y), ("near", X, Y)))),
        )
        self.assertEqual(formula_text(formula), EXAMPLE)
        self.assertEqual(depth(formula), 3)
        self.assertTrue(holds(Graph(3, [(1, 2), (0, 1)]), formula, {}))
        self.assertFalse(holds(Graph(0, []), formula, {}))

    def test_known_formulas(self):
        known = [colourable(1), colourable(2), colourable(3), connected()]
        for formula in known + [dominating(("V", 0)), matching(("E", 0))]:
            self.assertEqual(formula_of(formula_text(formula)), formula)

    def test_chosen_formulas(self):
        source = Random(53)
        for _ in range(500):
            formula = some_formula(source, source.randrange(13), NUMBERS)
            text = formula_text(formula)
            self.assertTrue(is_text(text))
            found = formula_of(text)
            self.assertEqual(found, formula)
            self.assertTrue(is_formula(found))


class BadFormulaTest(unittest.TestCase):
    def test_wrong_texts(self):
        for text in WRONG:
            self.assertFalse(is_text(text), text)
            with self.assertRaises(BadFormula, msg=text):
                formula_of(text)

    def test_texts_that_are_one_change_away(self):
        source = Random(59)
        texts = sorted(TEXTS) + [EXAMPLE]
        texts += [formula_text(some_formula(source, 3, NUMBERS)) for _ in range(15)]
        for text in texts:
            for other in texts_near(text):
                if is_text(other):
                    self.assertEqual(formula_text(formula_of(other)), other)
                else:
                    with self.assertRaises(BadFormula, msg=other):
                        formula_of(other)

    def test_beginnings_and_ends(self):
        for text in [*TEXTS, EXAMPLE]:
            for at in range(1, len(text)):
                for other in (text[:at], text[at:]):
                    if not is_text(other):
                        with self.assertRaises(BadFormula, msg=other):
                            formula_of(other)
            for more in (text + text, text + " ", " " + text, text + ")", text + "\n"):
                with self.assertRaises(BadFormula):
                    formula_of(more)

    def test_depths(self):
        for word in ("not", "and", "or", "some", "all"):
            for many in (0, 1, 11, 12):
                formula = formula_of(nested_text(word, many))
                self.assertEqual(depth(formula), many)
                self.assertEqual(formula_text(formula), nested_text(word, many))
            for many in (13, 14, 100, 5000, 200000):
                with self.assertRaises(BadFormula):
                    formula_of(nested_text(word, many))

    def test_depths_on_both_sides(self):
        for word, sign in (("and", "&"), ("or", "|")):
            for many in (11, 12):
                inner = nested_text("not", many)
                for text in (f"(true {sign} {inner})", f"({inner} {sign} true)"):
                    if many == 11:
                        self.assertEqual(depth(formula_of(text)), 12)
                    else:
                        with self.assertRaises(BadFormula):
                            formula_of(text)

    def test_parentheses_without_end(self):
        for text in ("!(", "(", "(true & ", "some v0 (", "all v0 (", ")", "true", "v0 = "):
            with self.assertRaises(BadFormula):
                formula_of(text * 100000)

    def test_deep_formulas_have_a_text(self):
        formula = TRUE
        for _ in range(20):
            formula = ("not", formula)
        self.assertEqual(formula_text(formula), nested_text("not", 20))


if __name__ == "__main__":
    unittest.main()
