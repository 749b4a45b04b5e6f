"""Atoms and rules: [0.1] to [0.5], [0.10], stage 2."""

import itertools
import random
import unittest

from askable.ask.rules import MAX_ATOMS, MAX_VARIABLES, Rule, is_atom
from askable.errors import InvalidOperation, InvalidRule
from support import (
    EVERY_KIND, TIP, check_error, is_right_name, random_rule, show, values_without,
)

LETTERS = "abcdefghijklmnopqrstuvwxyz"
SOME_ATOMS = [
    ("in", "t", ()), ("in", "t", ("x",)), ("in", "t", ("x", "y")), ("in", "t", ("x", "y", "x")), ("out", "t", ()),
    ("out", "t", ("x", "x", "x")), ("unlike", "x", "x"), ("unlike", "x", "y"), ("in", "unlike", ("x",)), ("in", "in", ()),
]
SOME_TURNED = [("unlike", "y", "x"), ("unlike", "b", "a"), ("unlike", "xx", "x")]
NO_ATOMS = [
    ("in", "t", ("x", "y", "z", "w")), ("in", "t", ["x"]), ("in", "t", "x"), ("in", "T", ()), ("in", "t"), ("in", "t", (), ()),
    ("in", 1, ()), ("in", "t", (1,)), ("in", "t", ("X",)), ("like", "x", "y"), ("unlike", "x"), ("unlike", ("x", "y")),
    ("unlike", "x", "y", "z"), ("unlike", "x", 1), ("unlike", 1, "x"), ("unlike", "X", "x"), ("unlike", None, None),
    ["in", "t", ()], ("not", "t", ("x",)), ("out", "t", None), ("unlike", "y", "X"), (True, "t", ()), ("unlike", "y", ("x",)),
    ("like", "y", "x"), ("in", "y", "x"), ("out", "y", "x"), ["unlike", "y", "x"],
]


def is_right_variables(value):
    return isinstance(value, tuple) and len(value) <= 3 and all(is_right_name(part) for part in value)


def is_right_atom(value):
    if not isinstance(value, tuple) or len(value) != 3:
        return False
    if value[0] == "unlike":
        return is_right_name(value[1]) and is_right_name(value[2]) and value[1] <= value[2]
    return value[0] in ("in", "out") and is_right_name(value[1]) and is_right_variables(value[2])


def can_be_passed(value):
    """Whether a value is an atom, perhaps turned round."""
    if isinstance(value, tuple) and len(value) == 3 and value[0] == "unlike":
        return is_right_name(value[1]) and is_right_name(value[2])
    return is_right_atom(value)


def not_passed():
    return values_without(can_be_passed) + NO_ATOMS


class AtomsTest(unittest.TestCase):
    def test_atoms(self):
        for atom in SOME_ATOMS:
            self.assertIs(is_atom(atom), True, atom)

    def test_what_is_no_atom(self):
        for value in NO_ATOMS + SOME_TURNED:
            self.assertIs(is_atom(value), False, value)

    def test_every_kind(self):
        for value in EVERY_KIND + SOME_ATOMS:
            self.assertIs(is_atom(value), is_right_atom(value), show(value))


class RuleTest(unittest.TestCase):
    def test_limits(self):
        self.assertEqual((MAX_VARIABLES, MAX_ATOMS), (16, 20000))

    def test_parts(self):
        rule = Rule(("z", "x", "z"), ("unlike", "y", "x"), ("in", "s", ("w", "z")), ("out", "r", ()), ("in", "s", ("w", "z")))
        self.assertEqual(rule.head, ("z", "x", "z"))
        self.assertEqual(rule.atoms, (("in", "s", ("w", "z")), ("out", "r", ()), ("unlike", "x", "y")))
        self.assertEqual((rule.variables, rule.hidden), (("w", "x", "y", "z"), ("w", "y")))
        self.assertEqual((rule.tables, list(rule.tables)), ({"r": 0, "s": 2}, ["r", "s"]))
        self.assertEqual((len(rule), list(rule)), (3, list(rule.atoms)))
        self.assertEqual(str(rule), "rule of 3 atoms, 4 variables")

    def test_without_atoms(self):
        for head in ((), ("x",), ("x", "x"), ("x", "y", "x")):
            rule = Rule(head)
            self.assertEqual((rule.atoms, rule.hidden, rule.tables, len(rule)), ((), (), {}, 0))
            self.assertEqual(rule.variables, tuple(sorted(set(head))))
            self.assertFalse(rule)

    def test_of(self):
        atoms = (("unlike", "y", "x"), ("in", "t", ("x", "z")))
        self.assertEqual(Rule.of(("x",), atoms), Rule(("x",), *atoms))
        self.assertEqual(Rule.of((), ()), Rule(()))

    def test_random_rules(self):
        rng = random.Random(11)
        for _ in range(200):
            rule = random_rule(rng, rng.randint(0, 3))
            told = {atom[1]: len(atom[2]) for atom in rule.atoms if atom[0] != "unlike"}
            names = set(rule.head)
            for atom in rule.atoms:
                names.update(atom[1:] if atom[0] == "unlike" else atom[2])
                self.assertTrue(is_right_atom(atom))
            self.assertEqual((rule.tables, list(rule.tables)), (told, sorted(told)))
            self.assertEqual(rule.variables, tuple(sorted(names)))
            self.assertEqual(rule.hidden, tuple(sorted(names - set(rule.head))))
            self.assertEqual(rule.atoms, tuple(sorted(set(rule.atoms))))
            mixed = list(rule.atoms) * 2
            rng.shuffle(mixed)
            self.assertEqual(Rule(rule.head, *mixed), rule)

    def test_errors_of_the_head(self):
        for value in values_without(is_right_variables) + [("x", "y", "z", "w"), ("x", "Y")]:
            check_error(self, InvalidRule, Rule, value)
            check_error(self, InvalidRule, Rule.of, value, ())
            check_error(self, InvalidRule, Rule.of, value, None)

    def test_errors_of_the_atoms(self):
        for value in not_passed():
            check_error(self, InvalidRule, Rule, ("x",), value)
            check_error(self, InvalidRule, Rule, ("x",), ("in", "t", ("x",)), value)
            check_error(self, InvalidRule, Rule.of, ("x",), (value, ("in", "t", ("x",))))
        for value in values_without(lambda value: isinstance(value, tuple)):
            check_error(self, InvalidRule, Rule.of, ("x",), value)

    def test_unlike_numbers_of_variables(self):
        check_error(self, InvalidRule, Rule, (), ("in", "t", ("x",)), ("in", "t", ("x", "y")))
        check_error(self, InvalidRule, Rule, (), ("in", "t", ("x",)), ("out", "t", ()))
        self.assertEqual(Rule((), ("in", "t", ("x",)), ("out", "u", ())).tables, {"t": 1, "u": 0})

    def test_numbers_of_variables(self):
        atoms = [("in", "t", (name,)) for name in LETTERS[:16]]
        self.assertEqual(len(Rule((), *atoms).variables), 16)
        check_error(self, InvalidRule, Rule, (), *atoms, ("unlike", "a", "q"))
        check_error(self, InvalidRule, Rule, ("q",), *atoms)
        check_error(self, InvalidRule, Rule((), *atoms).with_atom, ("in", "t", ("q",)))
        self.assertEqual(len(Rule((), *atoms).with_atom(("in", "t", ("a",)))), 16)

    def test_numbers_of_atoms(self):
        triples = list(itertools.product(LETTERS[:16], repeat=3))
        atoms = [("in", name, told) for name in ("p", "q", "r", "s", "t") for told in triples]
        rule = Rule.of((), tuple(atoms[:20000] + atoms[:20000]))
        self.assertEqual(len(rule), 20000)
        check_error(self, InvalidRule, Rule, (), *atoms[:20001])
        check_error(self, InvalidRule, rule.with_atom, atoms[20000])
        self.assertEqual(rule.with_atom(atoms[5]), rule)
        self.assertEqual(len(rule.without_atom(atoms[5])), 19999)

    def test_more_tables_than_a_database_has(self):
        atoms = [("in", name, ("x",)) for name in LETTERS]
        self.assertEqual(len(Rule((), *atoms).tables), 26)


class RuleMethodsTest(unittest.TestCase):
    def test_with_atom(self):
        rule = Rule(("x",))
        told = rule.with_atom(("unlike", "y", "x"))
        self.assertEqual((told.atoms, told.variables), ((("unlike", "x", "y"),), ("x", "y")))
        self.assertEqual(told.with_atom(("unlike", "x", "y")), told)
        self.assertEqual(rule.atoms, ())

    def test_errors_of_with_atom(self):
        for value in not_passed():
            check_error(self, InvalidRule, TIP.with_atom, value)
        check_error(self, InvalidRule, TIP.with_atom, ("in", "edge", ("x",)))

    def test_without_atom(self):
        self.assertEqual(TIP.without_atom(("unlike", "z", "x")), TIP.without_atom(("unlike", "x", "z")))
        told = TIP.without_atom(("in", "edge", ("y", "z"))).without_atom(("unlike", "x", "z"))
        self.assertEqual((told.atoms, told.variables), ((("in", "edge", ("x", "y")),), ("x", "y")))
        last = told.without_atom(("in", "edge", ("x", "y")))
        self.assertEqual((last, last.variables, last.tables), (Rule(("x",)), ("x",), {}))
        self.assertEqual(len(TIP), 3)

    def test_errors_of_without_atom(self):
        for value in EVERY_KIND + NO_ATOMS + [("in", "edge", ("z", "y")), ("unlike", "x", "y"), ("unlike", "y", "x")]:
            if value != ("in", "edge", ("x", "y")):
                check_error(self, InvalidOperation, TIP.without_atom, value)

    def test_renamed(self):
        told = TIP.renamed({"x": "z", "y": "x", "z": "a"})
        right = Rule(("z",), ("in", "edge", ("z", "x")), ("in", "edge", ("x", "a")), ("unlike", "a", "z"))
        self.assertEqual(told, right)
        self.assertIn(("unlike", "a", "z"), told)
        self.assertEqual(Rule(()).renamed({}), Rule(()))
        twice = Rule(("x", "y", "x"), ("unlike", "x", "x"))
        self.assertEqual(twice.renamed({"x": "y", "y": "x"}), Rule(("y", "x", "y"), ("unlike", "y", "y")))

    def test_errors_of_renamed(self):
        def is_right(value):
            return isinstance(value, dict) and set(value) == {"x", "y", "z"} and len(set(value.values())) == 3

        for value in values_without(is_right):
            check_error(self, InvalidOperation, TIP.renamed, value)
        for value in ({"x": "x", "y": "y"}, {"x": "x", "y": "y", "z": "y"}, {"x": "x", "y": "y", "z": "Z"},
                      {"x": "x", "y": "y", "z": "z", "w": "w"}, {"x": "x", "y": "y", "w": "z"}):
            check_error(self, InvalidOperation, TIP.renamed, value)

    def test_contains_atoms_as_they_are_kept(self):
        self.assertIn(("unlike", "x", "z"), TIP)
        self.assertNotIn(("unlike", "z", "x"), TIP)
        for value in EVERY_KIND:
            self.assertIs(value in TIP, isinstance(value, tuple) and value == ("in", "edge", ("x", "y")), show(value))

    def test_equal(self):
        self.assertTrue(Rule(("x",), ("unlike", "y", "x")) == Rule(("x",), ("unlike", "x", "y"), ("unlike", "y", "x")))
        for other in (Rule(("y",), *TIP.atoms), TIP.with_atom(("unlike", "x", "x")), Rule(("x",))):
            self.assertTrue(TIP != other)
            self.assertFalse(TIP == other)
        for value in EVERY_KIND:
            if not isinstance(value, Rule):
                self.assertIs(TIP == value, False)
                self.assertIs(TIP != value, True)

    def test_state(self):
        TIP.tables["edge"] = 1
        TIP.tables.clear()
        self.assertEqual(TIP.tables, {"edge": 2})
        for change in ("head", "atoms", "variables", "hidden", "tables"):
            with self.assertRaises(AttributeError):
                setattr(TIP, change, 1)
        mapping = {"x": "a", "y": "b", "z": "c"}
        told = TIP.renamed(mapping)
        mapping["x"] = "d"
        self.assertEqual(told.head, ("a",))


if __name__ == "__main__":
    unittest.main()
