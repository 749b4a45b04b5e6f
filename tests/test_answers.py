"""Answers and ways: [0.1] to [0.6], [0.10], [0.20], [0.21], [3.1], stage 3."""

import itertools
import random
import unittest

from askable.ask.answers import MAX_SEARCH, answers, first_answer, is_true, is_way, way_of, ways
from askable.ask.rules import Query, Rule
from askable.base.databases import Database
from askable.base.tables import Table, whole_table
from askable.errors import (
    InvalidDatabase, InvalidOperation, InvalidQuery, InvalidRule, TooMany, UnknownName,
)
from support import (
    BACK, EVERY_KIND, PATH, POINT, TIP, all_rows, all_wrong, check_error, check_errors, copy_of, fillings, is_right_name,
    is_right_row, random_database, random_rule, right_answers, right_ways, same, show, true_in, wrong_objects,
)
from test_rules import can_be_passed

LETTERS = "abcdefghijklmnopqrstuvwxyz"
ASK = Query(1, TIP)
FAR = Query(1, TIP, Rule(("x",), ("in", "none", ("x",)), ("out", "far", ())))
NARROW = Query(1, Rule(("x",), ("in", "edge", ("x",))))
BOTH = Query(1, Rule(("x",), ("in", "zzz", ()), ("in", "edge", ("x",))))


def small_cases(many, seed, most_atoms=4):
    """Small databases, each with a query of one number of columns."""
    rng = random.Random(seed)
    for _ in range(many):
        columns = rng.randint(0, 3)
        rules = [random_rule(rng, columns, most_atoms) for _ in range(rng.choice((0, 1, 1, 2)))]
        yield random_database(rng), Query(columns, *rules), rng


def is_right_mapping(value, needed, values):
    if not isinstance(value, dict) or not all(is_right_name(name) for name in value):
        return False
    if not all(isinstance(part, str) and part in values for part in value.values()):
        return False
    return all(name in value for name in needed)


def just_at_the_bound():
    """Databases and rules with 65536 ways to fill in values at most, and one variable more."""
    for many, most in ((2, 16), (3, 10), (4, 8), (5, 6), (6, 6)):
        database = Database(tuple("abcdef"[:many]), t=Table(1, ("a",)))
        names = LETTERS[:most]
        rule = Rule((), *[("in", "t", (name,)) for name in names])
        beyond = rule.with_atom(("in", "t", (LETTERS[most],))) if most < 16 else None
        yield database, rule, beyond


class IsTrueTest(unittest.TestCase):
    def test_atoms(self):
        for database, query, _ in small_cases(60, 1):
            for rule in query:
                for atom in rule:
                    for mapping in fillings("wxyz", database.domain):
                        self.assertIs(is_true(database, atom, mapping), true_in(database, atom, mapping))

    def test_unlike_turned_round(self):
        for one, other in itertools.product("ab", repeat=2):
            for atom in (("unlike", "x", "y"), ("unlike", "y", "x")):
                self.assertIs(is_true(POINT, atom, {"x": one, "y": other}), one != other)
        self.assertIs(is_true(POINT, ("unlike", "x", "x"), {"x": "a"}), False)

    def test_without_variables(self):
        database = Database(("a",), full=Table(0, ()), void=Table(0))
        told = [is_true(database, (word, name, ()), {}) for word in ("in", "out") for name in ("full", "void")]
        self.assertEqual(told, [True, False, False, True])

    def test_errors(self):
        atom = ("in", "edge", ("x", "y"))
        check_errors(self, is_true, [
            (PATH, wrong_objects(InvalidDatabase, Database)),
            (atom, all_wrong(InvalidOperation, can_be_passed)),
            ({"x": "a", "y": "b"}, all_wrong(InvalidOperation, lambda value: is_right_mapping(value, "xy", "abc"))),
        ])
        for mapping in ({"x": "a"}, {"x": "a", "y": "d"}, {"x": "a", "y": "b", "z": "d"}, {"x": "a", "y": "b", 1: "a"},
                        {"x": "a", "y": "b", "Z": "a"}, {"x": "a", "y": ["b"]}, {"x": "a", "y": None}):
            check_error(self, InvalidOperation, is_true, PATH, atom, mapping)
        self.assertTrue(is_true(PATH, atom, {"x": "a", "y": "b", "z": "c"}))

    def test_errors_where_atom_and_database_meet(self):
        check_error(self, UnknownName("at"), is_true, PATH, ("in", "at", ("x", "y")), {"x": "a", "y": "b"})
        check_error(self, InvalidOperation, is_true, PATH, ("out", "edge", ("x",)), {"x": "a"})
        check_error(self, InvalidOperation, is_true, PATH, ("out", "at", ("x",)), {"y": "a"})
        self.assertTrue(is_true(PATH, ("unlike", "edge", "at"), {"at": "a", "edge": "b"}))


class WaysTest(unittest.TestCase):
    def test_ways(self):
        for database, query, _ in small_cases(150, 2):
            for rule in query:
                for row in all_rows(database.domain, query.columns):
                    told = list(ways(rule, database, row))
                    self.assertEqual(told, right_ways(rule, database, row))
                    self.assertTrue(all(tuple(way) == rule.variables for way in told))

    def test_ascending_by_the_values_in_the_order_of_the_variables(self):
        rule = Rule(("m", "m"), ("unlike", "a", "z"), ("unlike", "m", "z"))
        told = [tuple(way.values()) for way in ways(rule, Database(tuple("cab")), ("b", "b"))]
        self.assertEqual(told, [("a", "b", "c"), ("b", "b", "a"), ("b", "b", "c"), ("c", "b", "a")])

    def test_head_with_a_variable_twice(self):
        self.assertEqual(list(ways(Rule(("x", "x")), POINT, ("a", "b"))), [])
        self.assertEqual(list(ways(Rule(("y", "x", "y")), POINT, ("a", "b", "a"))), [{"x": "b", "y": "a"}])
        self.assertEqual(list(ways(Rule(()), POINT, ())), [{}])

    def test_it_is_a_generator(self):
        told = ways(Rule((), *[("unlike", "a", name) for name in LETTERS[1:16]]), BACK, ())
        self.assertEqual(next(told), {"a": "a", **{name: "b" for name in LETTERS[1:16]}})
        self.assertEqual(len(list(told)), 1)
        waiting = ways(1, 2, 3)
        with self.assertRaises(InvalidRule):
            next(waiting)

    def test_what_is_returned_can_be_changed(self):
        first = []
        for way in ways(Rule(("x",), ("unlike", "y", "z")), PATH, ("a",)):
            first.append(dict(way))
            way.clear()
        self.assertEqual(first, list(ways(Rule(("x",), ("unlike", "y", "z")), PATH, ("a",))))

    def test_errors(self):
        check_errors(self, ways, [
            (TIP, wrong_objects(InvalidRule, Rule)),
            (PATH, wrong_objects(InvalidDatabase, Database)),
            (("a",), all_wrong(InvalidOperation, lambda value: is_right_row(value, 1, "abc"))),
        ])
        for rule, error in ((FAR[1], UnknownName("far")), (BOTH[0], UnknownName("zzz")), (NARROW[0], InvalidOperation)):
            check_error(self, error, ways, rule, PATH, ("a",))
        check_error(self, InvalidOperation, ways, FAR[1], PATH, ("d",))
        check_error(self, InvalidDatabase, ways, FAR[1], None, ("d",))

    def test_bound(self):
        self.assertEqual(MAX_SEARCH, 65536)
        for database, rule, beyond in just_at_the_bound():
            self.assertEqual(list(ways(rule, database, ())), [{name: "a" for name in rule.variables}])
            if beyond is not None:
                check_error(self, TooMany(65536), ways, beyond, database, ())
                check_error(self, InvalidOperation, ways, beyond, database, ("a",))
                check_error(self, UnknownName("t"), ways, beyond, database.without_table("t"), ())
                wide = database.with_table("t", Table(2))
                check_error(self, InvalidOperation, ways, beyond, wide, ())

    def test_all_values_at_the_bound(self):
        for database, rule, _ in just_at_the_bound():
            full = database.with_table("t", whole_table(database.domain, 1))
            told = sum(1 for _ in ways(rule, full, ()))
            self.assertEqual(told, len(database.domain) ** len(rule.variables))

    def test_one_value(self):
        one = Database(("a",), t=Table(1, ("a",)))
        rule = Rule((), *[("in", "t", (name,)) for name in LETTERS[:16]])
        self.assertEqual(len(list(ways(rule, one, ()))), 1)
        self.assertEqual(list(ways(rule.with_atom(("unlike", "a", "b")), one, ())), [])


class WayTest(unittest.TestCase):
    def test_way_of(self):
        for database, query, _ in small_cases(150, 3):
            for row in all_rows(database.domain, query.columns):
                right = [(at, way) for at, rule in enumerate(query.rules) for way in right_ways(rule, database, row)]
                told = way_of(query, database, row)
                if right:
                    self.assertIn(told, right)
                    self.assertEqual(list(told[1]), sorted(told[1]))
                    self.assertIsInstance(told, tuple)
                    self.assertIs(told[0].__class__, int)
                else:
                    self.assertIsNone(told)
                for way in right:
                    self.assertIs(is_way(query, database, row, way), True)

    def test_is_way_of_all_dicts(self):
        for database, query, _ in small_cases(60, 4):
            for row in all_rows(database.domain, query.columns)[:6]:
                for at, rule in enumerate(query.rules):
                    right = right_ways(rule, database, row)
                    for mapping in fillings(rule.variables, database.domain):
                        self.assertIs(is_way(query, database, row, (at, mapping)), mapping in right)

    def test_is_way_takes_keys_in_any_order(self):
        self.assertTrue(is_way(ASK, PATH, ("a",), (0, {"z": "c", "x": "a", "y": "b"})))

    def test_is_way_refuses(self):
        right = {"x": "a", "y": "b", "z": "c"}
        two = Query(1, TIP, Rule(("x",)))
        self.assertTrue(is_way(two, PATH, ("a",), (1, right)))
        wrong = [
            (0, right), (2, right), (-1, right), (True, right), (None, right), ("1", right), (1,), (1, right, right), right,
            [1, right], (1, [right]), (1, tuple(right.items())), (1, {}), (right, 1), (1, None),
            (1, {"x": "a", "y": "b"}), (1, {"x": "a", "y": "b", "z": "c", "w": "a"}), (1, {"x": "a", "y": "b", "w": "c"}),
            (1, {"x": "a", "y": "b", "z": "d"}), (1, {"x": "a", "y": "b", "z": ["c"]}), (1, {"x": "a", "y": "b", "z": True}),
            (1, {"x": "a", "y": "b", "z": "a"}), (1, {"x": "c", "y": "b", "z": "a"}), (1, {"x": "a", "y": "b", "z": "c", 1: "a"}),
        ]
        for value in wrong + EVERY_KIND:
            if value != (0, {"x": "a"}):
                self.assertIs(is_way(two, PATH, ("a",), value), False, show(value))
        self.assertTrue(is_way(two, PATH, ("a",), (0, {"x": "a"})))
        self.assertTrue(is_way(two, PATH, ("b",), (0, {"x": "b"})))
        self.assertFalse(is_way(two, PATH, ("b",), (0, {"x": "a"})))
        self.assertFalse(is_way(two, PATH, ("b",), (False, {"x": "b"})))

    def test_without_variables(self):
        query = Query(0, Rule(()))
        self.assertEqual(way_of(query, POINT, ()), (0, {}))
        self.assertIs(is_way(query, POINT, (), (0, {})), True)
        self.assertIs(is_way(query, POINT, (), (0, {"x": "a"})), False)
        self.assertIsNone(way_of(Query(0), POINT, ()))
        for value in EVERY_KIND:
            self.assertIs(is_way(Query(0), POINT, (), value), False)

    def test_errors(self):
        parameters = [
            (ASK, wrong_objects(InvalidQuery, Query)),
            (PATH, wrong_objects(InvalidDatabase, Database)),
            (("a",), all_wrong(InvalidOperation, lambda value: is_right_row(value, 1, "abc"))),
        ]
        check_errors(self, way_of, parameters)
        check_errors(self, lambda query, database, row: is_way(query, database, row, None), parameters)
        for query, error in ((FAR, UnknownName("far")), (BOTH, UnknownName("zzz")), (NARROW, InvalidOperation)):
            check_error(self, error, way_of, query, PATH, ("a",))
            check_error(self, error, is_way, query, PATH, ("a",), None)
            check_error(self, InvalidOperation, way_of, query, PATH, ("d",))
            check_error(self, InvalidOperation, is_way, query, PATH, (), None)

    def test_bound(self):
        for database, rule, beyond in just_at_the_bound():
            way = (0, {name: "a" for name in rule.variables})
            self.assertEqual(way_of(Query(0, rule), database, ()), way)
            if beyond is not None:
                way = (0, {name: "a" for name in beyond.variables})
                check_error(self, TooMany(65536), way_of, Query(0, beyond), database, ())
                check_error(self, TooMany(65536), way_of, Query(0, beyond, Rule(())), database, ())
                check_error(self, UnknownName("t"), way_of, Query(0, beyond), database.without_table("t"), ())
                self.assertIs(is_way(Query(0, beyond), database, (), way), True)
                way[1]["a"] = "b"
                self.assertIs(is_way(Query(0, beyond), database, (), way), False)

    def test_the_judge_has_no_bound(self):
        six = Database(tuple("abcdef"), t=Table(3, ("a", "b", "c")))
        triples = itertools.product(LETTERS[:16], repeat=3)
        rule = Rule.of((), tuple(("out", "t", told) for told in triples))
        self.assertTrue(is_way(Query(0, rule), six, (), (0, {name: "f" for name in LETTERS[:16]})))
        self.assertFalse(is_way(Query(0, rule), six, (), (0, {name: LETTERS[at % 6] for at, name in enumerate(LETTERS[:16])})))

    def test_arguments_stay(self):
        value = (0, {"x": "a", "y": "b", "z": "c"})
        before = copy_of(value)
        is_way(ASK, PATH, ("a",), value)
        self.assertTrue(same(value, before))
        told = way_of(ASK, PATH, ("a",))
        told[1].clear()
        self.assertEqual(way_of(ASK, PATH, ("a",)), before)


class AnswersTest(unittest.TestCase):
    def test_answers(self):
        for database, query, _ in small_cases(250, 5):
            right = sorted({row for rule in query.rules for row in right_answers(rule, database)})
            told = answers(query, database)
            self.assertEqual((told.columns, told.rows), (query.columns, tuple(right)))
            self.assertEqual(first_answer(query, database), right[0] if right else None)

    def test_many_atoms(self):
        for database, query, _ in small_cases(60, 6, 12):
            right = sorted({row for rule in query.rules for row in right_answers(rule, database)})
            self.assertEqual(answers(query, database).rows, tuple(right))

    def test_six_values(self):
        rng = random.Random(8)
        six = tuple("abcdef")
        rows = [row for row in all_rows(six, 3) if rng.random() < 0.9]
        database = Database(six, p=Table(3, *rows), q=Table(1, ("b",)))
        rule = Rule(("x", "y", "z"), ("out", "p", ("x", "y", "z")), ("out", "q", ("x",)), ("unlike", "x", "z"))
        self.assertEqual(answers(Query(3, rule), database).rows, tuple(right_answers(rule, database)))

    def test_values_that_stand_in_no_row(self):
        database = Database(("a", "b", "c"), t=Table(1, ("a",)))
        self.assertEqual(answers(Query(1, Rule(("x",))), database).rows, (("a",), ("b",), ("c",)))
        self.assertEqual(answers(Query(1, Rule(("x",), ("out", "t", ("x",)))), database).rows, (("b",), ("c",)))

    def test_without_rules_and_atoms(self):
        self.assertEqual([answers(Query(n), PATH) for n in range(4)], [Table(n) for n in range(4)])
        self.assertEqual([first_answer(Query(n), PATH) for n in range(4)], [None] * 4)
        self.assertEqual([answers(Query(0, Rule(())), PATH), first_answer(Query(0, Rule(())), PATH)], [Table(0, ()), ()])
        whole = answers(Query(3, Rule(("z", "y", "x"))), PATH)
        self.assertEqual(whole, whole_table(PATH.domain, 3))

    def test_repeated_variables(self):
        self.assertEqual(answers(Query(3, Rule(("x", "y", "x"))), POINT).rows, tuple(
            (x, y, x) for x in "ab" for y in "ab"
        ))
        rule = Rule(("x",), ("in", "edge", ("x", "x")))
        self.assertEqual(answers(Query(1, rule), PATH.with_row("edge", ("b", "b"))).rows, (("b",),))

    def test_unlike_with_equal_variables(self):
        self.assertEqual(answers(Query(1, Rule(("x",), ("unlike", "y", "y"))), PATH), Table(1))

    def test_errors(self):
        for call in (answers, first_answer):
            check_errors(self, call, [
                (ASK, wrong_objects(InvalidQuery, Query)),
                (PATH, wrong_objects(InvalidDatabase, Database)),
            ])
            for query, error in ((FAR, UnknownName("far")), (BOTH, UnknownName("zzz")), (NARROW, InvalidOperation)):
                check_error(self, error, call, query, PATH)
            for database, rule, beyond in just_at_the_bound():
                self.assertTrue(call(Query(0, rule), database) in (Table(0, ()), ()))
                if beyond is not None:
                    check_error(self, TooMany(65536), call, Query(0, beyond), database)
                    check_error(self, TooMany(65536), call, Query(0, Rule(()), beyond), database)
                    check_error(self, UnknownName("t"), call, Query(0, beyond), database.without_table("t"))

    def test_other_values_one_to_one(self):
        for database, query, rng in small_cases(120, 7):
            others = rng.sample("abcdefgh", len(database.domain))
            mapping = dict(zip(database.domain, others))
            told = answers(query, database.renamed(mapping)).rows
            right = sorted(tuple(mapping[value] for value in row) for row in answers(query, database))
            self.assertEqual(told, tuple(right))

    def test_many_atoms_just_at_the_bound(self):
        rng = random.Random(12)
        tables = {}
        for name in "pqrs":
            tables[name] = Table(3, *[row for row in all_rows("ab", 3) if row != ("b", "b", "b")])
        triples = [("in", name, told) for name in "pqrs" for told in itertools.product(LETTERS[:16], repeat=3)]
        rng.shuffle(triples)
        rule = Rule.of(("a", "b"), tuple(atom for atom in triples if len(set(atom[2])) == 3))
        told = answers(Query(2, rule), Database.of(("a", "b"), tables))
        self.assertEqual(told, whole_table(("a", "b"), 2))
        self.assertEqual(len(list(ways(rule, Database.of(("a", "b"), tables), ("b", "b")))), 1)


if __name__ == "__main__":
    unittest.main()
