"""Names and tables: [0.1] to [0.5], [0.7], [0.8], stage 1."""

import itertools
import random
import unittest

from askable.base.tables import MAX_COLUMNS, Table, is_name, whole_table
from askable.errors import InvalidNumber, InvalidOperation, InvalidTable
from support import (
    EVERY_KIND, all_rows, all_wrong, all_wrong_kept, check_error, check_errors, is_right_name, is_right_number, show,
    values_without,
)


def is_right_values(value):
    if not isinstance(value, tuple) or not all(is_right_name(part) for part in value):
        return False
    return 1 <= len(value) <= 6 and len(set(value)) == len(value)


def is_right_columns(value):
    return is_right_number(value, 3)


def is_row_of_names(value, columns):
    return isinstance(value, tuple) and len(value) == columns and all(is_right_name(part) for part in value)


class NamesTest(unittest.TestCase):
    def test_names(self):
        for name in ("a", "z", "m", "abcdefgh", "zzzzzzzz", "if", "not", "self", "values"):
            self.assertIs(is_name(name), True)

    def test_what_is_no_name(self):
        for value in ("", "abcdefghi", "A", "aA", "a1", "a ", "a\n", "`", "{", "a_b", None, 1, ("a",), ["a"]):
            self.assertIs(is_name(value), False)

    def test_every_kind(self):
        for value in EVERY_KIND:
            self.assertIs(is_name(value), is_right_name(value), show(value))


class WholeTableTest(unittest.TestCase):
    def test_all_rows(self):
        for many in range(1, 7):
            for columns in range(4):
                values = tuple("fedcba"[:many])
                table = whole_table(values, columns)
                self.assertEqual((table.columns, table.rows), (columns, tuple(all_rows(values, columns))))

    def test_errors(self):
        check_errors(self, whole_table, [
            (("b", "a"), all_wrong(InvalidOperation, is_right_values)),
            (2, all_wrong_kept(InvalidNumber, is_right_columns)),
        ])
        check_error(self, InvalidOperation, whole_table, ("a", "a"), 4)


class TableTest(unittest.TestCase):
    def test_limit(self):
        self.assertEqual(MAX_COLUMNS, 3)

    def test_rows_in_any_order(self):
        table = Table(2, ("b", "a"), ("a", "c"), ("b", "a"), ("a", "b"))
        self.assertEqual(table.rows, (("a", "b"), ("a", "c"), ("b", "a")))
        self.assertEqual((table.columns, table.domain, len(table)), (2, ("a", "b", "c"), 3))
        self.assertEqual(list(table), list(table.rows))
        self.assertEqual(str(table), "table of 2 columns, 3 rows")

    def test_without_columns_or_rows(self):
        self.assertEqual([Table(0).rows, Table(0, (), ()).rows, Table(3).rows], [(), ((),), ()])
        self.assertEqual([Table(0).domain, Table(0, ()).domain, Table(1).domain], [(), (), ()])
        self.assertEqual([bool(Table(0)), bool(Table(0, ())), bool(Table(3))], [False, True, False])
        self.assertEqual(str(Table(1, ("a",))), "table of 1 columns, 1 rows")
        self.assertEqual(str(Table(0)), "table of 0 columns, 0 rows")

    def test_of(self):
        for columns, rows in ((0, ()), (0, ((),)), (1, (("b",), ("a",), ("b",))), (3, (("a", "b", "c"),))):
            self.assertEqual(Table.of(columns, rows), Table(columns, *rows))
            self.assertEqual(Table.of(columns, rows).rows, tuple(sorted(set(rows))))

    def test_more_values_than_a_database_has(self):
        names = ["".join(pair) for pair in itertools.product("abcdef", repeat=2)]
        table = Table(1, *[(name,) for name in reversed(names)])
        self.assertEqual((len(table), table.domain), (36, tuple(names)))

    def test_errors_of_columns(self):
        for value, error in all_wrong_kept(InvalidNumber, is_right_columns):
            check_error(self, error, Table, value)
            check_error(self, error, Table, value, 1)
            check_error(self, error, Table.of, value, ())
            check_error(self, error, Table.of, value, None)

    def test_errors_of_rows(self):
        for columns in range(4):
            right = tuple("abc"[:columns])
            for value in values_without(lambda value: is_row_of_names(value, columns)):
                check_error(self, InvalidTable, Table, columns, value)
                check_error(self, InvalidTable, Table, columns, right, value, right)
                check_error(self, InvalidTable, Table.of, columns, (right, value))

    def test_errors_of_rows_that_are_no_tuple(self):
        for value in values_without(lambda value: isinstance(value, tuple)):
            check_error(self, InvalidTable, Table.of, 1, value)
        check_error(self, InvalidTable, Table.of, 0, [()])
        check_error(self, InvalidTable, Table.of, 1, {("a",): 1})


class TableOperatorsTest(unittest.TestCase):
    def setUp(self):
        rng = random.Random(7)
        self.tables = [Table(0), Table(0, ())]
        for columns in (1, 2, 3):
            for share in (0, 0.3, 0.6, 1):
                rows = [row for row in all_rows("abc", columns) if rng.random() < share]
                self.tables.append(Table(columns, *rows))

    def test_union_meet_and_difference(self):
        for one, other in itertools.product(self.tables, repeat=2):
            if one.columns == other.columns:
                left, right = set(one.rows), set(other.rows)
                for told, rows in ((one | other, left | right), (one & other, left & right), (one - other, left - right)):
                    self.assertEqual((told.columns, told.rows), (one.columns, tuple(sorted(rows))))

    def test_errors_of_operators(self):
        for one in (Table(0), Table(1, ("a",)), Table(3)):
            for value in EVERY_KIND:
                if not isinstance(value, Table) or value.columns != one.columns:
                    check_error(self, InvalidOperation, lambda x, y: x | y, one, value)
                    check_error(self, InvalidOperation, lambda x, y: x & y, one, value)
                    check_error(self, InvalidOperation, lambda x, y: x - y, one, value)

    def test_operators_do_not_change_the_tables(self):
        one, other = Table(1, ("a",)), Table(1, ("b",))
        kept = one
        one |= other
        self.assertEqual((one.rows, kept.rows, other.rows), ((("a",), ("b",)), (("a",),), (("b",),)))

    def test_is_within(self):
        for one, other in itertools.product(self.tables, repeat=2):
            right = one.columns == other.columns and set(one.rows) <= set(other.rows)
            self.assertIs(one.is_within(other), right)
        for value in EVERY_KIND:
            if not isinstance(value, Table):
                self.assertIs(Table(0).is_within(value), False)

    def test_contains(self):
        table = Table(2, ("a", "b"), ("b", "b"))
        for value in EVERY_KIND:
            self.assertIs(value in table, isinstance(value, tuple) and value in [("a", "b"), ("b", "b")], show(value))
        self.assertNotIn(["a", "b"], table)
        self.assertIn((), Table(0, ()))

    def test_equal(self):
        for one, other in itertools.product(self.tables, repeat=2):
            right = one.columns == other.columns and one.rows == other.rows
            self.assertIs(one == other, right)
            self.assertIs(one != other, not right)
        self.assertFalse(Table(1) == Table(2))
        table = Table(2, ("a", "b"))
        for value in EVERY_KIND:
            if not isinstance(value, Table):
                self.assertIs(table == value, False)
                self.assertIs(table != value, True)

    def test_iteration(self):
        for table in self.tables:
            self.assertEqual(list(table), sorted(set(table.rows)))
            self.assertEqual(len(table), len(list(table)))


class PickedTest(unittest.TestCase):
    table = Table(3, ("a", "b", "c"), ("a", "c", "c"), ("c", "b", "a"))

    def test_all_choices_of_positions(self):
        for many in range(4):
            for positions in itertools.product(range(3), repeat=many):
                told = self.table.picked(*positions)
                rows = sorted({tuple(row[at] for at in positions) for row in self.table.rows})
                self.assertEqual((told.columns, told.rows), (many, tuple(rows)))

    def test_no_positions(self):
        self.assertEqual([Table(1).picked().rows, Table(1, ("a",)).picked().rows], [(), ((),)])
        self.assertEqual([Table(0).picked(), Table(0, ()).picked()], [Table(0), Table(0, ())])

    def test_errors(self):
        for value, error in all_wrong_kept(InvalidNumber, lambda value: is_right_number(value, 2)):
            check_error(self, error, self.table.picked, value)
            check_error(self, error, self.table.picked, 0, value, 7)
        check_error(self, InvalidNumber(3), self.table.picked, 0, 1, 2, 2, 3)
        check_error(self, InvalidNumber(-1), self.table.picked, 0, -1, 3)
        check_error(self, InvalidNumber(0), Table(0, ()).picked, 0)
        check_error(self, InvalidNumber(True), Table(2).picked, 1, True)
        check_error(self, InvalidOperation, self.table.picked, 0, 1, 2, 0)
        check_error(self, InvalidOperation, Table(1).picked, 0, 0, 0, 0, 0)


class MappedTest(unittest.TestCase):
    table = Table(2, ("a", "b"), ("c", "b"))

    def test_mapped(self):
        told = self.table.mapped({"c": "x", "a": "y", "b": "a"})
        self.assertEqual(told.rows, (("x", "a"), ("y", "a")))
        self.assertEqual(self.table.mapped({"a": "z", "b": "z", "c": "z"}), Table(2, ("z", "z")))
        self.assertEqual([Table(1).mapped({}), Table(0, ()).mapped({})], [Table(1), Table(0, ())])

    def test_errors(self):
        def is_right(value):
            return isinstance(value, dict) and set(value) == set("abc") and all(map(is_right_name, value.values()))

        for value in values_without(is_right):
            check_error(self, InvalidOperation, self.table.mapped, value)
        for value in ({"a": "a", "b": "b"}, {"a": "a", "b": "b", "c": "c", "d": "d"}, {"a": "a", "b": "b", "c": "C"}):
            check_error(self, InvalidOperation, self.table.mapped, value)
        check_error(self, InvalidOperation, Table(1).mapped, {"a": "a"})

    def test_mapping_can_change_afterwards(self):
        mapping = {"a": "x", "b": "y", "c": "z"}
        told = self.table.mapped(mapping)
        mapping["a"] = "w"
        self.assertEqual(told.rows, (("x", "y"), ("z", "y")))


class NeverChangesTest(unittest.TestCase):
    def test_no_items_and_no_attributes(self):
        table = Table(1, ("a",))
        for change in ("columns", "rows", "domain"):
            with self.assertRaises(AttributeError):
                setattr(table, change, 1)
        with self.assertRaises(TypeError):
            table[0] = ("b",)

    def test_equal_calls_return_equal_results(self):
        table = Table(2, ("b", "a"), ("a", "b"))
        self.assertEqual([table.rows, table.domain, str(table)], [table.rows, table.domain, str(table)])
        self.assertEqual(table.picked(1), table.picked(1))


if __name__ == "__main__":
    unittest.main()
