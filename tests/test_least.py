"""Least and greatest tables: [0.1] to [0.6], [0.17], [0.20], [0.21], [3.1], [12.1], [12.2], stage 12."""

import itertools
import random
import unittest

from askable.ask.languages import LANGUAGES
from askable.ask.rules import Query
from askable.base.databases import Database
from askable.base.tables import Table
from askable.errors import InvalidOperation, TooMany
from askable.tell.least import can_have, exact_wish, greatest_tables, least_query, least_tables
from askable.wish.examples import Examples
from askable.wish.papers import is_askable
from oracles import (
    SHAPES, database_of, has_keeper, is_query_of, places_of_keepers, right_kept_maps, right_maps, right_misfits, right_thrown,
)
from support import BACK, BEGIN, PATH, POINT, REST, SPOTS, THERE, all_rows, all_wrong, check_error, check_errors, right_answers
from test_languages import WRONG
from test_places import JUST_BEYOND, JUST_REACHED

MANY = [language for language in LANGUAGES if " many " in language]
ONE = [(language, InvalidOperation) for language in LANGUAGES if " one " in language]
ALONE = (Table(1, ("a",)),)
AHEAD = (Table(1, ("a",)), Table(1))


def are_right_databases(value):
    if not isinstance(value, tuple) or not 1 <= len(value) <= 4 or not all(isinstance(part, Database) for part in value):
        return False
    return all(part.shape == value[0].shape for part in value)


def are_right_tables(databases, value):
    if not isinstance(value, tuple) or len(value) != len(databases) or not all(isinstance(part, Table) for part in value):
        return False
    if len({part.columns for part in value}) > 1:
        return False
    return all(set(part.domain) <= set(one.domain) for part, one in zip(value, databases))


WRONG_DATABASES = all_wrong(InvalidOperation, are_right_databases) + [
    (value, InvalidOperation)
    for value in ((THERE, PATH), (POINT,) * 5, (POINT, 1), (POINT, POINT.with_table("more", Table(0))), [POINT], (POINT, None))
]


def wrong_tables(databases):
    """The values that are no tuples of tables of some databases."""
    many = len(databases)
    more = [
        (Table(1),) * (many + 1), (Table(1),) * (many - 1), (Table(1, ("z",)),) * many, (Table(1),) * (many - 1) + (1,),
        (Table(1),) * (many - 1) + (Table(2, ("a", "z")),), [Table(1)] * many, Table(1), (("a",),) * many,
    ]
    if many > 1:
        more += [(Table(1),) + (Table(2),) * (many - 1), (Table(0),) + (Table(1),) * (many - 1)]
        more += [(Table(1, ("z",)),) + (Table(1),) * (many - 1), (Table(1),) * (many - 1) + (Table(1, ("a",), ("z",)),)]
    told = all_wrong(InvalidOperation, lambda value: are_right_tables(databases, value))
    return told + [(value, InvalidOperation) for value in more]


def subsets(rows):
    return [told for size in range(len(rows) + 1) for told in itertools.combinations(rows, size)]


def some_databases(rng, most_values=2, most=2):
    shape = rng.choice(SHAPES)
    return tuple(database_of(rng, tuple("abc"[:rng.randint(1, most_values)]), shape) for _ in range(rng.randint(1, most)))


def some_tables(rng, databases, columns, most_rows=2):
    """Tables of the databases with at most so many rows together."""
    places = [(at, row) for at, one in enumerate(databases) for row in all_rows(one.domain, columns)]
    chosen = rng.sample(places, min(len(places), rng.randint(0, most_rows)))
    return tuple(Table(columns, *[row for index, row in chosen if index == at]) for at in range(len(databases)))


def right_least(databases, tables, language):
    """What maps throw all rows to, or each row alone, by trying all dicts [12.1]."""
    wish = Examples(tables[0].columns, *[(one, table.rows, ()) for one, table in zip(databases, tables)])
    found = []
    for target in range(len(databases)):
        rows = set()
        for places in places_of_keepers(wish, language):
            rows |= set(right_thrown(wish, language, places, target))
        found.append(Table(tables[0].columns, *rows))
    return tuple(found)


def right_greatest(databases, tables, language):
    """The rows that no map of one place leads to a row that is not there, by trying all dicts [12.2]."""
    found = []
    for one, table in zip(databases, tables):
        kept = []
        for row in all_rows(one.domain, table.columns):
            wish = Examples(table.columns, (one, (row,), ()), *[(other, (), ()) for other in databases][:3])
            targets = list(zip(databases, tables)) if len(databases) < 4 else None
            if targets is None:
                return None
            led = []
            for index, (_, other) in enumerate(targets, 1):
                led += [told in other for told in right_thrown(wish, language, ((0, row),), index)]
            if all(led):
                kept.append(row)
        found.append(Table(table.columns, *kept))
    return tuple(found)


class ExactWishTest(unittest.TestCase):
    def test_cases(self):
        wish = exact_wish((THERE, BACK), AHEAD)
        self.assertEqual(wish, Examples(1, (THERE, (("a",),), (("b",),)), (BACK, (), (("a",), ("b",)))))
        self.assertEqual(exact_wish((PATH,), (Table(0),)).cases, ((PATH, (), ((),)),))
        self.assertEqual(exact_wish((PATH, PATH), (Table(0, ()), Table(0))).cases, ((PATH, ((),), ()), (PATH, (), ((),))))
        rng = random.Random(1)
        for _ in range(50):
            databases = some_databases(rng, 3, 4)
            tables = some_tables(rng, databases, rng.randint(0, 3), 20)
            wish = exact_wish(databases, tables)
            self.assertIsInstance(wish, Examples)
            self.assertEqual((wish.columns, len(wish)), (tables[0].columns, len(databases)))
            for (database, must, barred), one, table in zip(wish, databases, tables):
                self.assertEqual((database, must), (one, table.rows))
                self.assertEqual(barred, tuple(row for row in all_rows(one.domain, wish.columns) if row not in table))

    def test_errors(self):
        for call, rest in (
            (exact_wish, []), (can_have, [("flat one not", WRONG)]), (least_tables, [("deep one plain", WRONG)]),
            (least_query, [("deep many not", WRONG)]), (greatest_tables, [("deep many not", WRONG + ONE)]),
        ):
            check_errors(self, call, [((PATH,), WRONG_DATABASES), (ALONE, wrong_tables((PATH,)))] + rest)
            check_errors(self, call, [((THERE, BACK), WRONG_DATABASES), (AHEAD, wrong_tables((THERE, BACK)))] + rest)
            told = [right for right, _ in rest]
            check_error(self, InvalidOperation, call, (), (), *told)
            check_error(self, InvalidOperation, call, (POINT,) * 5, (Table(1),) * 5, *told)
            four = (POINT, POINT, POINT, POINT)
            check_errors(self, call, [(four, WRONG_DATABASES), ((Table(2),) * 4, wrong_tables(four))] + rest)


class LeastTest(unittest.TestCase):
    def test_by_all_maps(self):
        rng = random.Random(2)
        for _ in range(90):
            databases = some_databases(rng)
            columns = rng.choice((0, 1, 1, 2, 2, 3))
            tables = some_tables(rng, databases, columns)
            for language in LANGUAGES:
                right = right_least(databases, tables, language)
                told = least_tables(databases, tables, language)
                self.assertIsInstance(told, tuple)
                self.assertEqual(told, right, (databases, tables, language))
                self.assertEqual(can_have(databases, tables, language), right == tables)
                self.check_query(databases, tables, language, right)

    def check_query(self, databases, tables, language, right):
        query = least_query(databases, tables, language)
        self.assertIsInstance(query, Query)
        self.assertTrue(is_query_of(query, language))
        self.assertEqual(query.columns, tables[0].columns)
        for database, table in zip(databases, right):
            rows = {row for rule in query for row in right_answers(rule, database)}
            self.assertEqual(Table(query.columns, *rows), table)

    def test_more_values(self):
        rng = random.Random(3)
        for _ in range(25):
            databases = some_databases(rng, 3, 2)
            tables = some_tables(rng, databases, rng.choice((1, 2)), 1)
            for language in LANGUAGES:
                right = right_least(databases, tables, language)
                self.assertEqual(least_tables(databases, tables, language), right)
                self.check_query(databases, tables, language, right)
        for _ in range(12):
            databases = some_databases(rng, 3, 4)
            tables = some_tables(rng, databases, rng.choice((1, 2, 3)), 30)
            for language in [word for word in LANGUAGES if not word.startswith("deep one")]:
                right = right_least(databases, tables, language)
                self.assertEqual(least_tables(databases, tables, language), right)
                self.assertEqual(can_have(databases, tables, language), right == tables)
                if " many " in language:
                    self.check_query(databases, tables, language, right)

    def test_by_all_sets_of_rows(self):
        # The least tables are within all tables that a query has and that have all rows; the greatest contain the others.
        rng = random.Random(4)
        for _ in range(12):
            databases = some_databases(rng)
            columns = 1 if rng.random() < 0.8 else 0
            choices = [subsets(all_rows(one.domain, columns)) for one in databases]
            whole = [tuple(Table(columns, *rows) for rows in told) for told in itertools.product(*choices)]
            for language in LANGUAGES:
                right = [tables for tables in whole if not has_keeper(exact_wish(databases, tables), language)]
                for tables in whole:
                    self.assertEqual(can_have(databases, tables, language), tables in right)
                    self.assertEqual(is_askable(exact_wish(databases, tables), language), tables in right)
                    least = least_tables(databases, tables, language)
                    around = [told for told in right if all(x.is_within(y) for x, y in zip(tables, told))]
                    self.assertIn(least, around)
                    self.assertTrue(all(x.is_within(y) for told in around for x, y in zip(least, told)))
                    if language in MANY:
                        greatest = greatest_tables(databases, tables, language)
                        within = [told for told in right if all(x.is_within(y) for x, y in zip(told, tables))]
                        self.assertIn(greatest, within)
                        self.assertTrue(all(x.is_within(y) for told in within for x, y in zip(told, greatest)))

    def test_what_can_be_had_is_the_least_around_itself(self):
        rng = random.Random(5)
        for _ in range(60):
            databases = some_databases(rng, 3, 3)
            tables = some_tables(rng, databases, rng.choice((1, 2)), 6)
            for language in LANGUAGES:
                try:
                    least = least_tables(databases, tables, language)
                except TooMany:
                    continue
                self.assertTrue(all(x.is_within(y) for x, y in zip(tables, least)))
                self.assertEqual(can_have(databases, tables, language), least == tables)
                if language in MANY:
                    self.assertTrue(can_have(databases, least, language))
                    self.assertEqual(least_tables(databases, least, language), least)
                self.assertEqual(right_misfits(exact_wish(databases, least), least_query(databases, tables, language)), [])

    def test_the_edges(self):
        for language in LANGUAGES:
            self.assertEqual(least_tables((PATH,), (Table(0, ()),), language), (Table(0, ()),))
            none = least_tables((PATH,), (Table(1),), language)
            if language in MANY:
                self.assertEqual(none, (Table(1),))
                self.assertEqual(least_query((PATH,), (Table(1),), language), Query(1))
            whole = Table(1, ("a",), ("b",))
            self.assertTrue(can_have((THERE,), (whole,), language))
            self.assertEqual(least_tables((THERE,) * 4, (whole, Table(1), Table(1), Table(1)), language), (whole,) * 4)
        # Without "unlike" and "not" one rule cannot make the empty table where all atoms can be true.
        loop = Database(("a", "b"), to=Table(2, ("a", "a")))
        self.assertEqual(least_tables((loop,), (Table(1),), "deep one plain"), (Table(1, ("a",)),))
        self.assertEqual(least_tables((loop,), (Table(1),), "flat one plain"), (Table(1, ("a",)),))
        self.assertEqual(least_tables((loop,), (Table(1),), "deep one unlike"), (Table(1),))
        self.assertEqual(least_tables((THERE,), (Table(0),), "deep one plain"), (Table(0),))
        self.assertEqual(least_tables((THERE,), (Table(0),), "flat one plain"), (Table(0, ()),))

    def test_one_value(self):
        single = Database(("a",), to=Table(2), be=Table(0, ()))
        for language in LANGUAGES:
            for columns in range(4):
                row = ("a",) * columns
                for tables in ((Table(columns),), (Table(columns, row),)):
                    self.assertEqual(least_tables((single,), tables, language), right_least((single,), tables, language))

    def test_other_names_of_values(self):
        rng = random.Random(6)
        for _ in range(40):
            databases = some_databases(rng, 3, 2)
            columns = rng.choice((1, 2))
            tables = some_tables(rng, databases, columns, 2)
            mappings = [dict(zip(one.domain, rng.sample(("p", "q", "r", "a", "b"), len(one.domain)))) for one in databases]
            renamed = tuple(one.renamed(mapping) for one, mapping in zip(databases, mappings))

            def other(told):
                return tuple(
                    Table(columns, *[tuple(mapping[value] for value in row) for row in table])
                    for table, mapping in zip(told, mappings)
                )

            for language in LANGUAGES:
                try:
                    least = least_tables(databases, tables, language)
                except TooMany:
                    continue
                self.assertEqual(least_tables(renamed, other(tables), language), other(least))
                if language in MANY:
                    greatest = greatest_tables(databases, tables, language)
                    self.assertEqual(greatest_tables(renamed, other(tables), language), other(greatest))

    def test_bound(self):
        for examples in JUST_REACHED + JUST_BEYOND:
            databases = tuple(case[0] for case in examples.cases)
            tables = tuple(Table(examples.columns, *case[1]) for case in examples.cases)
            for language in LANGUAGES:
                for call in (can_have, least_tables, least_query):
                    if examples in JUST_BEYOND and language.startswith("deep one"):
                        check_error(self, TooMany(65536), call, databases, tables, language)
                        check_error(self, InvalidOperation, call, databases, tables, language + " ")
                    elif examples in JUST_REACHED or len(examples.places) < 300:
                        call(databases, tables, language)


class GreatestTest(unittest.TestCase):
    def test_by_all_maps(self):
        rng = random.Random(7)
        for _ in range(80):
            databases = some_databases(rng, 3, 3)
            tables = some_tables(rng, databases, rng.choice((0, 1, 2)), 12)
            for language in MANY:
                told = greatest_tables(databases, tables, language)
                self.assertIsInstance(told, tuple)
                self.assertEqual(told, right_greatest(databases, tables, language), (databases, tables, language))
                self.assertTrue(all(x.is_within(y) for x, y in zip(told, tables)))
                self.assertTrue(can_have(databases, told, language))

    def test_deep_maps_are_maps_of_the_values(self):
        rng = random.Random(8)
        for _ in range(40):
            database = some_databases(rng, 3, 1)[0]
            table = some_tables(rng, (database,), 1, 3)[0]
            for language in [word for word in MANY if word.startswith("deep")]:
                told = right_maps(database, database, language)
                kept = [row for row in table if all((mapping[row[0]],) in table for mapping in told)]
                self.assertEqual(greatest_tables((database,), (table,), language), (Table(1, *kept),))

    def test_the_edges(self):
        for language in MANY:
            for database in (PATH, SPOTS, Database(("a",))):
                whole = Table(2, *all_rows(database.domain, 2))
                self.assertEqual(greatest_tables((database,), (whole,), language), (whole,))
                self.assertEqual(greatest_tables((database,), (Table(2),), language), (Table(2),))
            self.assertEqual(greatest_tables((PATH,), (Table(0, ()),), language), (Table(0, ()),))
            self.assertEqual(greatest_tables((PATH, PATH), (Table(0, ()), Table(0)), language), (Table(0), Table(0)))
            self.assertEqual(greatest_tables((THERE,) * 4, (Table(1),) * 4, language), (Table(1),) * 4)


class GuaranteeTest(unittest.TestCase):
    def test_what_a_language_can_each_language_can_within_which_it_is(self):
        rng = random.Random(9)
        last = {"plain": "unlike", "unlike": "not"}
        for _ in range(40):
            databases = some_databases(rng, 2, 2)
            tables = some_tables(rng, databases, 1, 3)
            for language in LANGUAGES:
                first, number, word = language.split(" ")
                others = [("deep", number, word), (first, "many", word), (first, number, last.get(word, word))]
                least = least_tables(databases, tables, language)
                for other in others:
                    more = least_tables(databases, tables, " ".join(other))
                    self.assertTrue(all(x.is_within(y) for x, y in zip(more, least)), (language, other))

    def test_document(self):
        self.assertEqual([can_have((POINT,), (Table(2, *REST.cases[0][1]),), word) for word in LANGUAGES],
                         [word.endswith("not") or word == "deep many unlike" for word in LANGUAGES])
        self.assertEqual(right_kept_maps(BEGIN, "deep many not", BEGIN.places, 1), [])


if __name__ == "__main__":
    unittest.main()
