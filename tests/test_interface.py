"""The interface at the end of DOC.md: names, arguments, and their files.

Each function and class is defined in the file under which it is listed, and
each method in the class itself.
"""

import ast
import importlib
import inspect
import unittest

FUNCTIONS = {
    "smallwidth.graph": {
        "same": ["first", "second"],
        "is_connected": ["graph"],
        "part": ["graph", "vertices"],
        "renumbered": ["graph", "order"],
        "without": ["graph", "edge"],
        "together": ["first", "second"],
        "pieces": ["graph"],
    },
    "smallwidth.least": {"least_form": ["graph"], "all_graphs": ["size"]},
    "smallwidth.graphtext": {"graph_text": ["graph"], "graph_of": ["text"]},
    "smallwidth.terms": {
        "check_term": ["term", "k"],
        "made": ["term", "k"],
        "operands": ["term", "k"],
        "ended": ["term", "k"],
        "joined": ["first", "second"],
        "most_labels": ["term", "k"],
    },
    "smallwidth.bags": {
        "fault": ["graph", "bags", "parents"],
        "width_of": ["bags"],
        "bags_of": ["term", "k"],
        "term_of": ["graph", "bags", "parents", "k"],
    },
    "smallwidth.width": {
        "components": ["graph", "without"],
        "order_width": ["graph", "order"],
        "width": ["graph"],
        "bags_of_order": ["graph", "order"],
        "decomposition": ["graph"],
        "least_order": ["graph"],
    },
    "smallwidth.bramble": {
        "is_bramble": ["graph", "sets"],
        "cover": ["graph", "sets"],
        "bramble": ["graph"],
        "haven": ["graph", "sets", "standing"],
        "strength": ["graph", "sets"],
        "meeting_bag": ["bags", "sets"],
    },
    "smallwidth.formula": {
        "is_formula": ["value"],
        "depth": ["formula"],
        "rank": ["formula"],
        "free": ["formula"],
    },
    "smallwidth.truth": {
        "holds": ["graph", "formula", "values"],
        "values_of": ["graph", "sort"],
        "satisfying": ["graph", "formula", "variable"],
    },
    "smallwidth.known": {
        "independent": ["variable"],
        "dominating": ["variable"],
        "colourable": ["count"],
        "closed": ["variable"],
        "connected": [],
        "matching": ["variable"],
    },
    "smallwidth.formulatext": {"formula_text": ["formula"], "formula_of": ["text"]},
    "smallwidth.states": {
        "first_state": ["formula"],
        "with_vertex": ["formula", "full", "label", "chosen"],
        "with_edge": ["formula", "full", "first", "second", "chosen"],
        "forgotten": ["formula", "full", "label"],
        "joined": ["formula", "first", "second"],
        "truth": ["formula", "full"],
        "term_state": ["formula", "term", "k"],
    },
    "smallwidth.tables": {"parting": ["table", "c", "d"]},
    "smallwidth.apart": {
        "least_of": ["table"],
        "difference": ["first", "second", "k"],
        "alike": ["first", "second", "k"],
    },
    "smallwidth.answers": {
        "answer": ["graph", "tree", "formula"],
        "count": ["graph", "tree", "formula"],
        "sizes": ["graph", "tree", "formula"],
        "best": ["graph", "tree", "formula", "greatest"],
    },
    "smallwidth.allgraphs": {
        "failing": ["formula", "k"],
        "parting_graph": ["first", "second", "k"],
        "orders": ["formula", "k", "most"],
        "first_graphs": ["formula", "k", "count"],
    },
}

METHODS = {
    ("smallwidth.graph", "Graph"): {
        "__init__": ["self", "size", "edges"],
        "has": ["self", "u", "v"],
        "near": ["self", "u"],
    },
    ("smallwidth.cops", "Chase"): {
        "__init__": ["self", "graph", "cops"],
        "rank": ["self", "standing", "region"],
        "after": ["self", "standing", "region", "move"],
        "best": ["self", "standing", "region"],
        "caught": ["self"],
    },
    ("smallwidth.tables", "Table"): {
        "__init__": ["self", "formula", "k"],
        "frame": ["self", "c"],
        "holds": ["self", "c"],
        "after": ["self", "c", "step"],
        "both": ["self", "c", "d"],
        "of": ["self", "term"],
    },
}


def defined_in_file(module, kind):
    with open(inspect.getsourcefile(module), encoding="utf-8") as file:
        tree = ast.parse(file.read())
    return [node.name for node in tree.body if isinstance(node, kind)]


class InterfaceTest(unittest.TestCase):
    def test_functions(self):
        for name, functions in FUNCTIONS.items():
            module = importlib.import_module(name)
            here = defined_in_file(module, ast.FunctionDef)
            for function, arguments in functions.items():
                with self.subTest(f"{name}.{function}"):
                    self.assertIn(function, here)
                    found = inspect.signature(getattr(module, function))
                    self.assertEqual(list(found.parameters), arguments)

    def test_methods(self):
        for (name, word), methods in METHODS.items():
            module = importlib.import_module(name)
            self.assertIn(word, defined_in_file(module, ast.ClassDef))
            for method, arguments in methods.items():
                with self.subTest(f"{name}.{word}.{method}"):
                    own = vars(getattr(module, word))
                    self.assertIn(method, own)
                    found = inspect.signature(own[method])
                    self.assertEqual(list(found.parameters), arguments)


if __name__ == "__main__":
    unittest.main()
