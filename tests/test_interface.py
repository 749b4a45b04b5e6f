"""The interface: each name stands in its file, with the methods of each class in its body."""

import ast
import importlib
import inspect
import pathlib
import unittest

TOP = pathlib.Path(__file__).resolve().parent.parent

CONSTANTS = {
    "askable.base.tables": {"MAX_COLUMNS": 3},
    "askable.base.databases": {"MAX_VALUES": 6, "MAX_TABLES": 4},
    "askable.ask.rules": {"MAX_VARIABLES": 16, "MAX_ATOMS": 20000},
    "askable.ask.answers": {"MAX_SEARCH": 65536},
    "askable.wish.examples": {"MAX_CASES": 4},
}
FUNCTIONS = {
    "askable.base.tables": {"is_name": "value", "whole_table": "values, columns"},
    "askable.base.databases": {"sign_table": "database, sign"},
    "askable.ask.languages": {
        "is_language": "value", "is_within": "language, other", "joined": "language, other", "signs_of": "database, language",
    },
    "askable.ask.rules": {"is_atom": "value"},
    "askable.ask.answers": {
        "is_true": "database, atom, mapping", "ways": "rule, database, row", "way_of": "query, database, row",
        "is_way": "query, database, row, value", "answers": "query, database", "first_answer": "query, database",
    },
    "askable.ask.trees": {
        "closed_tree": "rule, database, barred", "is_closed_tree": "rule, database, barred, value",
        "row_paper": "query, database, row", "is_row_paper": "query, database, row, value",
        "size_of": "tree", "height_of": "tree", "choices_of": "tree",
    },
    "askable.keep.maps": {
        "maps": "first, second, language", "is_map": "first, second, language, value",
        "map_of": "first, row, second, other, language", "images": "first, row, second, language", "symmetries": "database",
        "is_symmetry": "database, value", "turned": "mapping", "behind": "mapping, other",
    },
    "askable.wish.examples": {"first_misfit": "examples, query"},
    "askable.keep.places": {
        "columns_of": "examples, places", "keys_of": "examples, language, places",
        "key_rows": "examples, language, places, sign", "is_key_row": "examples, language, places, sign, value",
        "rule_of": "examples, language, places",
    },
    "askable.keep.keepers": {
        "kept_maps": "examples, language, places, target", "thrown_rows": "examples, language, places, target",
        "keeper": "examples, language", "is_keeper": "examples, language, value", "thrown_row": "examples, value",
        "done_behind": "examples, value, target, mapping",
    },
    "askable.keep.flat": {
        "flat_rule": "database, row, language", "leads_flat": "first, row, second, other, language",
        "flat_kinds": "database, columns, language", "joint_sets": "examples, language", "fewest_rules": "examples, language",
    },
    "askable.wish.papers": {
        "fitting_paper": "examples, query", "is_fitting_paper": "examples, value", "is_askable": "examples, language",
        "query_for": "examples, language", "paper": "examples, language", "is_paper": "examples, language, value",
        "query_of": "examples, language, value",
    },
    "askable.wish.ladder": {
        "ladder": "examples", "least_languages": "examples", "ladder_papers": "examples", "is_ladder": "examples, value",
        "carried": "examples, language, value, other", "clashes": "examples, language",
    },
    "askable.tell.least": {
        "exact_wish": "databases, tables", "can_have": "databases, tables, language",
        "least_tables": "databases, tables, language", "least_query": "databases, tables, language",
        "greatest_tables": "databases, tables, language",
    },
    "askable.tell.order": {
        "leads_to": "database, row, other, language", "order_paper": "database, row, other, language",
        "is_order_paper": "database, row, other, language, value", "classes": "database, columns, language",
        "class_order": "database, columns, language", "number_of_tables": "database, columns, language",
        "tables_asked": "database, columns, language",
    },
    "askable.short.lean": {
        "is_lean": "examples, query", "lean": "examples, query", "needed_atoms": "examples, query",
        "needed_rules": "examples, query", "shortest": "examples, query",
    },
    "askable.give.giving": {
        "is_given": "database, names, name, language", "tables_given": "database, names, language",
        "spare": "database, language", "bases": "database, language", "is_harmful": "database, names, secret, language",
        "least_harmful": "database, secret, language", "greatest_harmless": "database, secret, language",
    },
    "askable.text.formats": {
        "format_table": "table", "format_database": "database", "format_rule": "rule", "format_query": "query",
        "parse_table": "text", "parse_database": "text", "parse_rule": "text", "parse_query": "text",
    },
}
GENERATORS = {"ways", "maps", "symmetries", "key_rows", "kept_maps", "tables_asked"}
GENERATOR_METHODS = {"news", "run_all"}
METHODS = {
    ("askable.base.tables", "Table"): {
        "__init__": "self, columns, *rows", "of": "cls, columns, rows", "columns": "self", "rows": "self", "domain": "self",
        "__or__": "self, other", "__and__": "self, other", "__sub__": "self, other", "is_within": "self, value",
        "picked": "self, *positions", "mapped": "self, mapping", "__len__": "self", "__contains__": "self, value",
        "__iter__": "self", "__eq__": "self, other", "__str__": "self",
    },
    ("askable.base.databases", "Database"): {
        "__init__": "self, values, **tables", "of": "cls, values, tables", "domain": "self", "tables": "self", "shape": "self",
        "__getitem__": "self, name", "__len__": "self", "__contains__": "self, value", "__iter__": "self",
        "__eq__": "self, other", "__str__": "self", "with_table": "self, name, table", "without_table": "self, name",
        "only": "self, *names", "with_row": "self, name, row", "without_row": "self, name, row", "with_value": "self, value",
        "without_value": "self, value", "renamed": "self, mapping",
    },
    ("askable.ask.rules", "Rule"): {
        "__init__": "self, head, *atoms", "of": "cls, head, atoms", "head": "self", "atoms": "self", "variables": "self",
        "hidden": "self", "tables": "self", "with_atom": "self, atom", "without_atom": "self, atom", "renamed": "self, mapping",
        "__len__": "self", "__contains__": "self, value", "__iter__": "self", "__eq__": "self, other", "__str__": "self",
    },
    ("askable.ask.rules", "Query"): {
        "__init__": "self, columns, *rules", "of": "cls, columns, rules", "columns": "self", "rules": "self", "tables": "self",
        "language": "self", "is_in": "self, language", "__getitem__": "self, index", "without": "self, *indices",
        "__or__": "self, other", "__len__": "self", "__iter__": "self", "__eq__": "self, other", "__str__": "self",
    },
    ("askable.wish.examples", "Examples"): {
        "__init__": "self, columns, *cases", "of": "cls, columns, cases", "columns": "self", "cases": "self", "shape": "self",
        "places": "self", "with_must": "self, index, row", "with_barred": "self, index, row", "without_must": "self, index, row",
        "without_barred": "self, index, row", "turned": "self", "only": "self, *indices", "__or__": "self, other",
        "__call__": "self, query", "__len__": "self", "__iter__": "self", "__eq__": "self, other", "__str__": "self",
    },
    ("askable.desk.desk", "Desk"): {
        "__init__": "self, shape", "apply": "self, *edits", "apply_all": "self, edits", "undo": "self, *, many=1",
        "redo": "self, *, many=1", "shape": "self", "names": "self", "wishes": "self", "log": "self", "watched": "self",
        "__getitem__": "self, name", "examples": "self, wish", "ladder": "self, wish", "paper": "self, wish, language",
        "watch": "self, wish, language", "unwatch": "self, wish, language", "news": "self", "trial": "self",
        "during": "self, call", "twin": "self", "__len__": "self", "__contains__": "self, value", "__eq__": "self, other",
        "__str__": "self",
    },
    ("askable.text.shell", "Shell"): {
        "__init__": "self, desk", "run": "self, line", "run_all": "self, lines", "desk": "self", "log": "self", "__len__": "self",
    },
}


def top_of(module):
    """The functions and classes that stand in the file of a module, by their names."""
    path = TOP.joinpath(*module.split(".")).with_suffix(".py")
    body = ast.parse(path.read_text()).body
    return {part.name: part for part in body if isinstance(part, (ast.FunctionDef, ast.ClassDef))}


def parameters_of(function):
    return ast.unparse(function.args)


class InterfaceTest(unittest.TestCase):
    def test_constants(self):
        for module, constants in CONSTANTS.items():
            for name, value in constants.items():
                self.assertEqual(getattr(importlib.import_module(module), name), value)

    def test_functions(self):
        for module, functions in FUNCTIONS.items():
            for name, parameters in functions.items():
                self.assertIsInstance(top_of(module)[name], ast.FunctionDef)
                self.assertEqual(parameters_of(top_of(module)[name]), parameters)
                self.assertTrue(inspect.isfunction(getattr(importlib.import_module(module), name)))

    def test_methods(self):
        for (module, name), methods in METHODS.items():
            self.assertIsInstance(top_of(module)[name], ast.ClassDef)
            found = {part.name: part for part in top_of(module)[name].body if isinstance(part, ast.FunctionDef)}
            for method, parameters in methods.items():
                self.assertEqual(parameters_of(found[method]), parameters, (name, method))

    def test_generators(self):
        for module, functions in FUNCTIONS.items():
            for name in functions:
                told = inspect.isgeneratorfunction(getattr(importlib.import_module(module), name))
                self.assertEqual(told, name in GENERATORS)
        for (module, name), methods in METHODS.items():
            made = getattr(importlib.import_module(module), name)
            for method in methods:
                told = inspect.isgeneratorfunction(getattr(made, method))
                self.assertEqual(told, method in GENERATOR_METHODS)


if __name__ == "__main__":
    unittest.main()
