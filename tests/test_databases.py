"""Databases and signs: [0.1] to [0.5], [0.8], [0.9], stage 1."""

import itertools
import random
import unittest

from askable.base.databases import MAX_TABLES, MAX_VALUES, Database, sign_table
from askable.base.tables import Table, whole_table
from askable.errors import InvalidDatabase, InvalidName, InvalidOperation, InvalidTable, UnknownName
from support import (
    EVERY_KIND, PATH, POINT, all_rows, all_wrong, all_wrong_kept, check_error, check_errors, is_right_name, is_right_row,
    random_database, show, values_without, wrong_objects,
)
from test_tables import is_right_values

FULL = Database(("c", "a", "b"), p=Table(0, ()), q=Table(1, ("a",)), r=Table(2, ("a", "a")), s=Table(3))


def is_right_tables(value, values):
    if not isinstance(value, dict) or len(value) > 4 or not all(is_right_name(name) for name in value):
        return False
    return all(isinstance(table, Table) and set(table.domain) <= set(values) for table in value.values())


class DatabaseTest(unittest.TestCase):
    def test_limits(self):
        self.assertEqual((MAX_VALUES, MAX_TABLES), (6, 4))

    def test_parts(self):
        self.assertEqual(FULL.domain, ("a", "b", "c"))
        self.assertEqual(list(FULL), ["p", "q", "r", "s"])
        self.assertEqual(FULL.shape, {"p": 0, "q": 1, "r": 2, "s": 3})
        self.assertEqual(FULL.tables, {"p": Table(0, ()), "q": Table(1, ("a",)), "r": Table(2, ("a", "a")), "s": Table(3)})
        self.assertEqual((len(FULL), str(FULL)), (4, "database of 3 values, 4 tables"))

    def test_keys_are_ascending(self):
        database = Database(("b", "a"), z=Table(1), m=Table(2), a=Table(0))
        self.assertEqual([list(database.tables), list(database.shape), list(database)], [["a", "m", "z"]] * 3)
        told = database.with_table("k", Table(0))
        self.assertEqual([list(told.tables), list(told.shape), list(told)], [["a", "k", "m", "z"]] * 3)
        self.assertEqual(list(database.only("z", "a").tables), ["a", "z"])

    def test_least_and_greatest(self):
        self.assertEqual((len(Database(("a",))), str(Database(("a",)))), (0, "database of 1 values, 0 tables"))
        self.assertFalse(Database(("a",)))
        six = Database(tuple("fedcba"), t=whole_table(tuple("abcdef"), 3))
        self.assertEqual((six.domain, len(six["t"])), (tuple("abcdef"), 216))

    def test_names_that_are_parameters(self):
        tables = {name: Table(1, ("a",)) for name in ("values", "self", "cls", "tables")}
        database = Database.of(("a", "b"), tables)
        self.assertEqual(database.tables, tables)
        self.assertEqual(Database(("a",), tables=Table(0)).tables, {"tables": Table(0)})
        self.assertEqual(database.with_row("self", ("b",))["self"].rows, (("a",), ("b",)))
        self.assertEqual(list(database.only("values", "self")), ["self", "values"])
        self.assertEqual(list(database.without_table("values")), ["cls", "self", "tables"])
        self.assertEqual(database.renamed({"a": "b", "b": "a"})["values"].rows, (("b",),))

    def test_of_is_the_class(self):
        self.assertEqual(Database.of(PATH.domain, PATH.tables), PATH)
        self.assertEqual(Database.of(("b", "a"), {}), Database(("a", "b")))

    def test_errors_of_values(self):
        for value in values_without(is_right_values):
            check_error(self, InvalidDatabase, Database, value)
            check_error(self, InvalidDatabase, Database.of, value, {})
            check_error(self, InvalidDatabase, Database.of, value, None)

    def test_errors_of_tables(self):
        for value in values_without(lambda value: is_right_tables(value, "ab")):
            check_error(self, InvalidDatabase, Database.of, ("a", "b"), value)
        for value in values_without(lambda value: isinstance(value, Table) and set(value.domain) <= {"a", "b"}):
            check_error(self, InvalidDatabase, Database.of, ("a", "b"), {"t": value})
            with self.assertRaises(InvalidDatabase):
                Database(("a", "b"), t=value)
        for name in values_without(is_right_name):
            if isinstance(name, (int, str, bool, type(None))):
                check_error(self, InvalidDatabase, Database.of, ("a",), {name: Table(0)})
        with self.assertRaises(InvalidDatabase):
            Database(("a",), Edge=Table(0))
        with self.assertRaises(InvalidDatabase):
            Database(("a",), a=Table(0), b=Table(0), c=Table(0), d=Table(0), e=Table(0))
        check_error(self, InvalidDatabase, Database.of, ("a",), {name: Table(0) for name in "abcde"})
        check_error(self, InvalidDatabase, Database.of, ("a",), {"t": Table(2, ("a", "b"))})

    def test_item(self):
        self.assertEqual(PATH["edge"].columns, 2)
        for value, error in all_wrong_kept(UnknownName, lambda value: value == "edge"):
            check_error(self, error, lambda database, name: database[name], PATH, value)
        check_error(self, UnknownName("at"), lambda database, name: database[name], PATH, "at")

    def test_contains(self):
        database = Database.of(("a",), {"a": Table(0), "values": Table(0)})
        for value in EVERY_KIND:
            self.assertIs(value in database, isinstance(value, str) and value in ("a", "values"), show(value))

    def test_equal(self):
        same = Database(("c", "b", "a"), edge=Table(2, ("c", "b"), ("b", "c"), ("a", "b"), ("b", "a")))
        self.assertTrue(PATH == same)
        self.assertFalse(PATH != same)
        for other in (PATH.with_value("d"), PATH.without_row("edge", ("a", "b")), PATH.with_table("x", Table(0)),
                      Database(PATH.domain), Database(PATH.domain, side=PATH["edge"])):
            self.assertFalse(PATH == other)
            self.assertTrue(PATH != other)
        self.assertFalse(Database(("a",), t=Table(1)) == Database(("a",), t=Table(2)))
        for value in EVERY_KIND:
            if not isinstance(value, Database):
                self.assertIs(PATH == value, False)
                self.assertIs(PATH != value, True)


class OtherTablesTest(unittest.TestCase):
    def test_with_table(self):
        told = POINT.with_table("mark", Table(1, ("b",)))
        self.assertEqual(told.tables, {"at": Table(2, ("a", "a")), "mark": Table(1, ("b",))})
        self.assertEqual(told.with_table("at", Table(0)).shape, {"at": 0, "mark": 1})
        self.assertEqual(POINT.shape, {"at": 2})

    def test_errors_of_with_table(self):
        check_errors(self, POINT.with_table, [
            ("mark", all_wrong(InvalidName, is_right_name)),
            (Table(1), wrong_objects(InvalidTable, Table)),
        ])
        check_error(self, InvalidDatabase, POINT.with_table, "mark", Table(1, ("c",)))
        check_error(self, InvalidDatabase, FULL.with_table, "t", Table(0))
        self.assertEqual(FULL.with_table("s", Table(0)).shape["s"], 0)

    def test_without_table(self):
        self.assertEqual(POINT.without_table("at"), Database(("a", "b")))
        self.assertEqual(FULL.without_table("q").shape, {"p": 0, "r": 2, "s": 3})
        for value, error in all_wrong_kept(UnknownName, lambda value: value == "at"):
            check_error(self, error, POINT.without_table, value)

    def test_only(self):
        for many in range(3):
            for names in itertools.product("pqrs", repeat=many):
                told = FULL.only(*names)
                self.assertEqual(told, Database.of(FULL.domain, {name: FULL[name] for name in names}))
        self.assertEqual(FULL.only("p", "p", "p", "p", "p", "q"), FULL.only("q", "p"))
        for value, error in all_wrong_kept(UnknownName, lambda value: value == "at"):
            check_error(self, error, POINT.only, value)
            check_error(self, error, POINT.only, "at", value, "none")


class OtherRowsTest(unittest.TestCase):
    def test_with_row(self):
        told = POINT.with_row("at", ("b", "a"))
        self.assertEqual(told["at"].rows, (("a", "a"), ("b", "a")))
        self.assertEqual(POINT["at"].rows, (("a", "a"),))
        self.assertEqual(POINT.with_row("at", ("a", "a")), POINT)
        none = Database(("a",), t=Table(0))
        self.assertEqual(none.with_row("t", ())["t"].rows, ((),))
        self.assertEqual(none.with_row("t", ()).with_row("t", ()), none.with_row("t", ()))

    def test_without_row(self):
        self.assertEqual(POINT.without_row("at", ("a", "a"))["at"], Table(2))
        self.assertEqual(FULL.without_row("p", ())["p"], Table(0))
        self.assertEqual(len(POINT["at"]), 1)

    def test_errors(self):
        check_errors(self, POINT.with_row, [
            ("at", all_wrong_kept(UnknownName, lambda value: value == "at")),
            (("a", "b"), all_wrong(InvalidOperation, lambda value: is_right_row(value, 2, "ab"))),
        ])
        check_errors(self, POINT.without_row, [
            ("at", all_wrong_kept(UnknownName, lambda value: value == "at")),
            (("a", "a"), all_wrong(InvalidOperation, lambda value: value == ("a", "a"))),
        ])
        check_error(self, InvalidOperation, POINT.without_row, "at", ("b", "b"))
        check_error(self, InvalidOperation, POINT.with_row, "at", ("a", "c"))
        check_error(self, InvalidOperation, FULL.with_row, "s", ("a", "a"))


class OtherValuesTest(unittest.TestCase):
    def test_with_value(self):
        self.assertEqual(POINT.with_value("aa").domain, ("a", "aa", "b"))
        self.assertEqual(POINT.with_value("aa")["at"], POINT["at"])
        self.assertEqual(POINT.with_value("b"), POINT)
        self.assertEqual(POINT.domain, ("a", "b"))

    def test_errors_of_with_value(self):
        for value in values_without(is_right_name):
            check_error(self, InvalidName, POINT.with_value, value)
        six = Database(tuple("abcdef"))
        check_error(self, InvalidDatabase, six.with_value, "g")
        self.assertEqual(six.with_value("f"), six)
        self.assertEqual(len(Database(tuple("abcde")).with_value("f").domain), 6)

    def test_without_value(self):
        self.assertEqual(POINT.without_value("b"), Database(("a",), at=Table(2, ("a", "a"))))
        for value, error in all_wrong_kept(UnknownName, lambda value: value in ("a", "b")):
            check_error(self, error, POINT.without_value, value)
        check_error(self, InvalidOperation, POINT.without_value, "a")
        check_error(self, InvalidOperation, Database(("a",)).without_value, "a")
        check_error(self, UnknownName("b"), Database(("a",)).without_value, "b")

    def test_renamed(self):
        told = PATH.renamed({"c": "a", "b": "long", "a": "b"})
        self.assertEqual(told.domain, ("a", "b", "long"))
        self.assertEqual(told["edge"].rows, (("a", "long"), ("b", "long"), ("long", "a"), ("long", "b")))
        self.assertEqual(FULL.renamed({"a": "x", "b": "y", "c": "z"})["p"], Table(0, ()))

    def test_errors_of_renamed(self):
        def is_right(value):
            return isinstance(value, dict) and set(value) == {"a", "b"} and len(set(value.values())) == 2

        for value in values_without(is_right):
            check_error(self, InvalidOperation, POINT.renamed, value)
        for value in ({"a": "a"}, {"a": "a", "b": "a"}, {"a": "a", "b": "b", "c": "c"}, {"a": "b", "b": 1}, {"a": "b", "c": "a"}):
            check_error(self, InvalidOperation, POINT.renamed, value)


class StateTest(unittest.TestCase):
    def test_what_was_passed_can_change(self):
        tables = {"t": Table(1, ("a",))}
        database = Database.of(("a",), tables)
        tables["u"] = Table(0)
        del tables["t"]
        self.assertEqual(database.tables, {"t": Table(1, ("a",))})

    def test_what_was_returned_can_change(self):
        database = Database(("a",), t=Table(1, ("a",)))
        database.tables["u"] = Table(0)
        database.tables.clear()
        database.shape["t"] = 3
        database.shape.clear()
        self.assertEqual((database.shape, list(database), len(database)), ({"t": 1}, ["t"], 1))

    def test_calls_that_raise_change_nothing(self):
        before = (POINT.domain, POINT.tables)
        for call in (lambda: POINT.with_table("at", 1), lambda: POINT.without_value("a"), lambda: POINT.renamed({}),
                     lambda: POINT.with_row("at", ("a",)), lambda: POINT.only("at", "none"), lambda: POINT["none"]):
            with self.assertRaises(Exception):
                call()
        self.assertEqual((POINT.domain, POINT.tables), before)

    def test_no_attributes(self):
        for change in ("domain", "tables", "shape"):
            with self.assertRaises(AttributeError):
                setattr(POINT, change, 1)
        with self.assertRaises(TypeError):
            POINT["at"] = Table(0)


class SignTableTest(unittest.TestCase):
    def test_signs(self):
        rng = random.Random(3)
        for _ in range(30):
            database = random_database(rng)
            for name in database:
                rows = database[name].rows
                rest = tuple(row for row in all_rows(database.domain, database[name].columns) if row not in rows)
                self.assertEqual(sign_table(database, ("in", name)), database[name])
                self.assertEqual(sign_table(database, ("out", name)).rows, rest)
                self.assertEqual(sign_table(database, ("out", name)).columns, database[name].columns)
            pairs = tuple((x, y) for x, y in all_rows(database.domain, 2) if x != y)
            unlike = sign_table(database, ("unlike",))
            self.assertEqual((unlike.columns, unlike.rows), (2, pairs))

    def test_one_value(self):
        one = Database(("a",), t=Table(0), u=Table(0, ()))
        self.assertEqual(sign_table(one, ("unlike",)), Table(2))
        self.assertEqual([sign_table(one, ("out", "t")), sign_table(one, ("out", "u"))], [Table(0, ()), Table(0)])

    def test_errors(self):
        def is_sign(value):
            return isinstance(value, tuple) and value in (("in", "edge"), ("out", "edge"), ("unlike",))

        check_errors(self, sign_table, [
            (PATH, wrong_objects(InvalidDatabase, Database)),
            (("in", "edge"), all_wrong(InvalidOperation, is_sign)),
        ])
        for value in (("in", "at"), ("in",), ("unlike", "edge"), ("unlike", "x", "y"), ["unlike"], ("in", "edge", ()), ("out", 1)):
            check_error(self, InvalidOperation, sign_table, PATH, value)


if __name__ == "__main__":
    unittest.main()
