"""The interface: each name stands in its file, with the methods of each class in its body."""

import ast
import importlib
import inspect
import pathlib
import unittest

TOP = pathlib.Path(__file__).resolve().parent.parent

CONSTANTS = {
    "askable.base.tables": {"MAX_COLUMNS": 3},
    "askable.base.databases": {"MAX_VALUES": 6, "MAX_TABLES": 4},
    "askable.ask.rules": {"MAX_VARIABLES": 16, "MAX_ATOMS": 20000},
    "askable.ask.answers": {"MAX_SEARCH": 65536},
}
FUNCTIONS = {
    "askable.base.tables": {"is_name": "value", "whole_table": "values, columns"},
    "askable.base.databases": {"sign_table": "database, sign"},
    "askable.ask.languages": {
        "is_language": "value", "is_within": "language, other", "joined": "language, other", "signs_of": "database, language",
    },
    "askable.ask.rules": {"is_atom": "value"},
    "askable.ask.answers": {
        "is_true": "database, atom, mapping", "ways": "rule, database, row", "way_of": "query, database, row",
        "is_way": "query, database, row, value", "answers": "query, database", "first_answer": "query, database",
    },
    "askable.ask.trees": {
        "closed_tree": "rule, database, barred", "is_closed_tree": "rule, database, barred, value",
        "row_paper": "query, database, row", "is_row_paper": "query, database, row, value",
        "size_of": "tree", "height_of": "tree", "choices_of": "tree",
    },
}
METHODS = {
    ("askable.base.tables", "Table"): {
        "__init__": "self, columns, *rows", "of": "cls, columns, rows", "columns": "self", "rows": "self", "domain": "self",
        "__or__": "self, other", "__and__": "self, other", "__sub__": "self, other", "is_within": "self, value",
        "picked": "self, *positions", "mapped": "self, mapping", "__len__": "self", "__contains__": "self, value",
        "__iter__": "self", "__eq__": "self, other", "__str__": "self",
    },
    ("askable.base.databases", "Database"): {
        "__init__": "self, values, **tables", "of": "cls, values, tables", "domain": "self", "tables": "self", "shape": "self",
        "__getitem__": "self, name", "__len__": "self", "__contains__": "self, value", "__iter__": "self",
        "__eq__": "self, other", "__str__": "self", "with_table": "self, name, table", "without_table": "self, name",
        "only": "self, *names", "with_row": "self, name, row", "without_row": "self, name, row", "with_value": "self, value",
        "without_value": "self, value", "renamed": "self, mapping",
    },
    ("askable.ask.rules", "Rule"): {
        "__init__": "self, head, *atoms", "of": "cls, head, atoms", "head": "self", "atoms": "self", "variables": "self",
        "hidden": "self", "tables": "self", "with_atom": "self, atom", "without_atom": "self, atom", "renamed": "self, mapping",
        "__len__": "self", "__contains__": "self, value", "__iter__": "self", "__eq__": "self, other", "__str__": "self",
    },
    ("askable.ask.rules", "Query"): {
        "__init__": "self, columns, *rules", "of": "cls, columns, rules", "columns": "self", "rules": "self", "tables": "self",
        "language": "self", "is_in": "self, language", "__getitem__": "self, index", "without": "self, *indices",
        "__or__": "self, other", "__len__": "self", "__iter__": "self", "__eq__": "self, other", "__str__": "self",
    },
}


def top_of(module):
    """The functions and classes that stand in the file of a module, by their names."""
    path = TOP.joinpath(*module.split(".")).with_suffix(".py")
    body = ast.parse(path.read_text()).body
    return {part.name: part for part in body if isinstance(part, (ast.FunctionDef, ast.ClassDef))}


def parameters_of(function):
    return ast.unparse(function.args)


class InterfaceTest(unittest.TestCase):
    def test_constants(self):
        for module, constants in CONSTANTS.items():
            for name, value in constants.items():
                self.assertEqual(getattr(importlib.import_module(module), name), value)

    def test_functions(self):
        for module, functions in FUNCTIONS.items():
            for name, parameters in functions.items():
                self.assertIsInstance(top_of(module)[name], ast.FunctionDef)
                self.assertEqual(parameters_of(top_of(module)[name]), parameters)
                self.assertTrue(inspect.isfunction(getattr(importlib.import_module(module), name)))

    def test_methods(self):
        for (module, name), methods in METHODS.items():
            self.assertIsInstance(top_of(module)[name], ast.ClassDef)
            found = {part.name: part for part in top_of(module)[name].body if isinstance(part, ast.FunctionDef)}
            for method, parameters in methods.items():
                self.assertEqual(parameters_of(found[method]), parameters, (name, method))

    def test_only_ways_is_a_generator(self):
        for module, functions in FUNCTIONS.items():
            for name in functions:
                told = inspect.isgeneratorfunction(getattr(importlib.import_module(module), name))
                self.assertEqual(told, name == "ways")


if __name__ == "__main__":
    unittest.main()
