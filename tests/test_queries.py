"""Queries: [0.1] to [0.5], [0.10], [0.11], stage 2."""

import itertools
import random
import unittest

from askable.ask.languages import LANGUAGES
from askable.ask.rules import Query, Rule
from askable.errors import InvalidNumber, InvalidOperation, InvalidQuery
from support import (
    EVERY_KIND, TIP, all_wrong_kept, check_error, check_errors, is_right_number, random_rule, values_without,
)
from test_languages import WRONG

LOOSE = Rule(("x",))
SIDE = Rule(("x",), ("out", "side", ("x",)))
THREE = Query(1, SIDE, TIP, LOOSE)


def belongs(rules, language):
    """Whether a query of these rules belongs to a language, straight from the words of [0.11]."""
    depth, number, last = language.split(" ")
    if depth == "flat" and any(set(rule.variables) - set(rule.head) for rule in rules):
        return False
    if number == "one" and len(rules) != 1:
        return False
    allowed = {"plain": ["in"], "unlike": ["in", "unlike"], "not": ["in", "unlike", "out"]}[last]
    return all(atom[0] in allowed for rule in rules for atom in rule.atoms)


class QueryTest(unittest.TestCase):
    def test_parts(self):
        self.assertEqual((THREE.columns, THREE.rules), (1, (LOOSE, TIP, SIDE)))
        self.assertEqual((THREE.tables, list(THREE.tables)), ({"edge": 2, "side": 1}, ["edge", "side"]))
        self.assertEqual((len(THREE), list(THREE)), (3, [LOOSE, TIP, SIDE]))
        self.assertEqual([THREE[0], THREE[1], THREE[2]], [LOOSE, TIP, SIDE])
        self.assertEqual((THREE.language, str(THREE)), ("deep many not", "query of 3 rules, 1 columns"))

    def test_different_rules(self):
        turned = Rule(("x",), ("unlike", "x", "z"), ("in", "edge", ("y", "z")), ("in", "edge", ("x", "y")))
        told = Query(1, TIP, turned, TIP)
        self.assertEqual((told.rules, told.language), ((TIP,), "deep one unlike"))

    def test_ascending_by_heads_and_then_by_atoms(self):
        rng = random.Random(5)
        for _ in range(50):
            columns = rng.randint(0, 3)
            rules = [random_rule(rng, columns, 2, "xy") for _ in range(6)]
            told = Query(columns, *rules)
            places = [(rule.head, rule.atoms) for rule in told.rules]
            self.assertEqual(places, sorted({(rule.head, rule.atoms) for rule in rules}))
            self.assertEqual(Query.of(columns, tuple(reversed(rules))), told)

    def test_without_rules(self):
        for columns in range(4):
            told = Query(columns)
            self.assertEqual((told.columns, told.rules, told.tables, len(told)), (columns, (), {}, 0))
            self.assertEqual((told.language, list(told)), ("flat many plain", []))
            self.assertFalse(told)
            self.assertEqual(str(told), f"query of 0 rules, {columns} columns")

    def test_language_is_the_first_to_which_it_belongs(self):
        rng = random.Random(9)
        seen = set()
        for _ in range(600):
            columns = rng.randint(0, 3)
            most = rng.randint(0, 3)
            rules = [random_rule(rng, columns, most, rng.choice(("x", "xyz"))) for _ in range(rng.choice((0, 1, 1, 2)))]
            if rng.random() < 0.5:
                rules = [Rule(rule.head, *[atom for atom in rule if atom[0] == "in"]) for rule in rules]
            told = Query(columns, *rules)
            right = [language for language in LANGUAGES if belongs(told.rules, language)]
            self.assertEqual(told.language, right[0])
            self.assertEqual([language for language in LANGUAGES if told.is_in(language)], right)
            for language in LANGUAGES:
                self.assertIs(told.is_in(language), language in right)
            seen.add(told.language)
        self.assertEqual(seen, set(LANGUAGES))

    def test_all_least_languages(self):
        atoms = {"plain": ("in", "t", ("x",)), "unlike": ("unlike", "x", "x"), "not": ("out", "t", ("x",))}
        for last, atom in atoms.items():
            flat, deep = Rule(("x",), atom), Rule((), atom)
            self.assertEqual(Query(1, flat).language, f"flat one {last}")
            self.assertEqual(Query(0, deep).language, f"deep one {last}")
            self.assertEqual(Query(1, flat, LOOSE).language, f"flat many {last}")
            self.assertEqual(Query(0, deep, Rule(())).language, f"deep many {last}")

    def test_errors(self):
        for value, error in all_wrong_kept(InvalidNumber, lambda value: is_right_number(value, 3)):
            check_error(self, error, Query, value)
            check_error(self, error, Query, value, 1)
            check_error(self, error, Query.of, value, ())
            check_error(self, error, Query.of, value, None)
        for value in values_without(lambda value: isinstance(value, Rule) and len(value.head) == 1):
            check_error(self, InvalidQuery, Query, 1, value)
            check_error(self, InvalidQuery, Query, 1, TIP, value)
            check_error(self, InvalidQuery, Query.of, 1, (value, TIP))
        for value in values_without(lambda value: isinstance(value, tuple)):
            check_error(self, InvalidQuery, Query.of, 1, value)
        check_error(self, InvalidQuery, Query, 0, TIP)
        check_error(self, InvalidQuery, Query, 1, TIP, Rule(("x",), ("in", "edge", ("x",))))
        check_error(self, InvalidQuery, Query, 1, TIP, Rule(("x",), ("out", "edge", ())))

    def test_errors_of_is_in(self):
        check_errors(self, THREE.is_in, [("deep one not", WRONG)])


class QueryMethodsTest(unittest.TestCase):
    def test_item(self):
        for value, error in all_wrong_kept(InvalidNumber, lambda value: is_right_number(value, 2)):
            check_error(self, error, lambda query, index: query[index], THREE, value)
        check_error(self, InvalidNumber(0), lambda query, index: query[index], Query(0), 0)
        check_error(self, InvalidNumber(-1), lambda query, index: query[index], THREE, -1)

    def test_without(self):
        for many in range(4):
            for indices in itertools.product(range(3), repeat=many):
                rules = [rule for index, rule in enumerate(THREE.rules) if index not in indices]
                self.assertEqual(THREE.without(*indices), Query(1, *rules))
        self.assertEqual(THREE.without(2, 2, 2, 2), Query(1, TIP, LOOSE))
        self.assertEqual(THREE.without(1, 2).tables, {})

    def test_errors_of_without(self):
        for value, error in all_wrong_kept(InvalidNumber, lambda value: is_right_number(value, 2)):
            check_error(self, error, THREE.without, value)
            check_error(self, error, THREE.without, 0, value, 9)

    def test_union(self):
        told = Query(1, TIP, LOOSE) | Query(1, SIDE, TIP)
        self.assertEqual(told, THREE)
        self.assertEqual(Query(2) | Query(2), Query(2))
        for value in EVERY_KIND:
            if not isinstance(value, Query) or value.columns != 1:
                check_error(self, InvalidOperation, lambda one, other: one | other, THREE, value)
        check_error(self, InvalidOperation, lambda one, other: one | other, Query(1), Query(2))
        other = Query(1, Rule(("x",), ("in", "side", ())))
        check_error(self, InvalidQuery, lambda one, other: one | other, THREE, other)

    def test_equal(self):
        self.assertTrue(THREE == Query(1, LOOSE, SIDE, TIP, TIP))
        for other in (THREE.without(0), Query(1), Query(1, TIP)):
            self.assertTrue(THREE != other)
            self.assertFalse(THREE == other)
        self.assertFalse(Query(1) == Query(2))
        for value in EVERY_KIND:
            if not isinstance(value, Query):
                self.assertIs(THREE == value, False)
                self.assertIs(THREE != value, True)

    def test_state(self):
        THREE.tables["edge"] = 3
        THREE.tables.clear()
        self.assertEqual(THREE.tables, {"edge": 2, "side": 1})
        for change in ("columns", "rules", "tables", "language"):
            with self.assertRaises(AttributeError):
                setattr(THREE, change, 1)
        with self.assertRaises(TypeError):
            THREE[0] = TIP


if __name__ == "__main__":
    unittest.main()
