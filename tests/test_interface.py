"""The interface at the document's end: names, arguments, and the files that define them."""

import ast
import importlib
import inspect
import pathlib
import unittest

PACKAGE = pathlib.Path(__file__).resolve().parent.parent / "ontheline"

INTERFACE = {
    "rankings": {
        "is_ranking": ["thing"],
        "is_folk": ["thing"],
        "ahead": ["ranking", "one", "other"],
        "between": ["one", "middle", "other"],
        "unlike": ["one", "other"],
        "cut_down": ["ranking", "some"],
        "steps": ["one", "other"],
    },
    "lines": {
        "falls": ["line", "ranking"],
        "valley": ["line", "ranking"],
        "number_on": ["line", "ranking"],
        "ranking_on": ["line", "number"],
        "lines_of": ["ranking"],
        "all_lines": ["folk"],
    },
    "judge": {
        "judged": ["folk", "paper"],
    },
    "builder": {
        "built": ["folk"],
    },
    "rows": {
        "row_judged": ["folk", "paper"],
        "row_built": ["folk"],
    },
    "more": {
        "margin": ["folk", "weights", "one", "other"],
        "order_judged": ["folk", "weights", "paper"],
        "order_of": ["folk", "weights"],
        "unbeaten": ["folk", "weights"],
        "middle": ["folk", "weights", "line"],
    },
    "middles": {
        "middle_of": ["line", "tops", "fixed"],
        "rule_of": ["line", "many", "fixed"],
        "rule_judged": ["line", "many", "rule", "paper"],
        "rule_looked": ["line", "many", "rule"],
    },
    "few": {
        "cost": ["folk", "weights", "names"],
        "few": ["folk", "weights", "line", "many"],
        "few_judged": ["folk", "weights", "line", "many", "thing"],
    },
    "nearest": {
        "nearest": ["line", "ranking"],
        "nearest_judged": ["line", "ranking", "thing"],
    },
    "trees": {
        "is_tree": ["names", "thing"],
        "first_apart": ["tree", "ranking"],
        "options": ["folk", "gone", "name"],
        "tree_told": ["folk"],
        "tree_judged": ["folk", "paper"],
        "trees_many": ["folk"],
        "tree_number": ["folk", "tree"],
        "balance": ["folk", "tree"],
        "tree_by": ["folk", "number"],
    },
    "texts": {
        "ranking_text": ["ranking"],
        "folk_text": ["folk"],
        "paper_text": ["paper"],
        "read_ranking": ["text"],
        "read_folk": ["text"],
        "read_paper": ["text"],
    },
}


class Interface(unittest.TestCase):

    def test_each_function_is_there_with_its_arguments(self):
        for file, functions in INTERFACE.items():
            module = importlib.import_module("ontheline." + file)
            for name, arguments in functions.items():
                with self.subTest(file=file, name=name):
                    told = inspect.signature(getattr(module, name))
                    self.assertEqual(list(told.parameters), arguments)

    def test_each_function_is_defined_in_its_file(self):
        for file, functions in INTERFACE.items():
            tree = ast.parse((PACKAGE / (file + ".py")).read_text())
            defined = [part.name for part in tree.body if isinstance(part, ast.FunctionDef)]
            for name in functions:
                self.assertEqual(defined.count(name), 1, name)

    def test_the_desk_and_its_method_are_defined_in_its_file(self):
        tree = ast.parse((PACKAGE / "desk.py").read_text())
        desks = [part for part in tree.body if isinstance(part, ast.ClassDef) and part.name == "Desk"]
        self.assertEqual(len(desks), 1)
        methods = {part.name: [one.arg for one in part.args.args] for part in desks[0].body
                   if isinstance(part, ast.FunctionDef)}
        self.assertEqual(methods["__init__"], ["self", "names"])
        self.assertEqual(methods["say"], ["self", "row"])
        self.assertEqual(importlib.import_module("ontheline.desk").Desk([0]).say("hands"), "")

    def test_each_error_is_defined_in_its_file(self):
        from samples import ALL_ERRORS
        tree = ast.parse((PACKAGE / "errors.py").read_text())
        defined = [part.name for part in tree.body if isinstance(part, ast.ClassDef)]
        self.assertEqual(sorted(defined), sorted(ALL_ERRORS + ["FolkError"]))


if __name__ == "__main__":
    unittest.main()
