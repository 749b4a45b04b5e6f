"""Tables that others give: [0.1] to [0.4], [0.18], [0.20], [3.1], [15.1] to [15.3], stage 15."""

import itertools
import random
import unittest

from askable.ask.answers import answers
from askable.ask.languages import LANGUAGES
from askable.ask.rules import Query
from askable.base.databases import Database
from askable.base.tables import Table
from askable.errors import InvalidDatabase, InvalidOperation, InvalidTable, UnknownName
from askable.give.giving import bases, greatest_harmless, is_given, is_harmful, least_harmful, spare, tables_given
from askable.wish.examples import Examples
from oracles import database_of, has_keeper
from support import (
    EVERY_KIND, PATH, POINT, SPOTS, THERE, all_rows, all_wrong, check_error, check_errors, random_rule,
)
from test_languages import WRONG
from test_maps import WRONG_DATABASE

GIVING = [language for language in LANGUAGES if not language.startswith("deep one")]
WRONG_LANGUAGE = WRONG + [(language, InvalidOperation) for language in LANGUAGES if language not in GIVING]
PAIR = POINT.with_table("mark", Table(1, ("a",)))
SHAPES = [
    {}, {"one": 1}, {"one": 1, "p": 1}, {"one": 1, "two": 2}, {"none": 0, "one": 1}, {"one": 1, "p": 1, "q": 1}, {"two": 2, "twos": 2},
    {"none": 0, "one": 1, "p": 1, "q": 1}, {"none": 0, "nones": 0, "one": 1}, {"one": 1, "two": 2, "twos": 2},
]


def right_has(database, names, rows, columns, language):
    """Whether a query of a language has just some rows in a database with some tables alone, by trying all maps."""
    alone = Database.of(database.domain, {name: database[name] for name in names})
    return not has_keeper(Examples(columns, (alone, tuple(rows), None)), language)


class Right:
    """What the tests find themselves about one database, by all maps and all sets of tables."""

    def __init__(self, database, language):
        self.database, self.language = database, language
        self.names = sorted(database)
        self.lots = [lot for size in range(len(self.names) + 1) for lot in itertools.combinations(self.names, size)]
        self.given = {lot: tuple(name for name in self.names if self.gives(lot, name)) for lot in self.lots}

    def gives(self, lot, name):
        table = self.database[name]
        rows = all_rows(self.database.domain, table.columns)
        if not right_has(self.database, lot, table.rows, table.columns, self.language):
            return False
        others = [row for row in rows if row not in table]
        return not self.language.endswith("not") or right_has(self.database, lot, others, table.columns, self.language)

    def without(self, lot, name):
        return tuple(other for other in lot if other != name)

    def spare(self):
        return tuple(name for name in self.names if name in self.given[self.without(self.names, name)])

    def bases(self):
        whole = tuple(self.names)
        return tuple(sorted(
            lot for lot in self.lots
            if self.given[lot] == whole and all(self.given[self.without(lot, name)] != whole for name in lot)
        ))

    def harmful(self, secret):
        return {lot: right_has(self.database, lot, secret.rows, secret.columns, self.language) for lot in self.lots}

    def least(self, harmful):
        return tuple(sorted(
            lot for lot in self.lots if harmful[lot] and not any(harmful[self.without(lot, name)] for name in lot)
        ))

    def greatest(self, harmful):
        found = []
        for lot in self.lots:
            more = [tuple(sorted(lot + (name,))) for name in self.names if name not in lot]
            if not harmful[lot] and all(harmful[other] for other in more):
                found.append(lot)
        return tuple(sorted(found))


def some_databases(many, seed, most_values=3):
    rng = random.Random(seed)
    for _ in range(many):
        database = database_of(rng, tuple("abc"[:rng.randint(1, most_values)]), rng.choice(SHAPES))
        names = list(database)
        # Tables that others give are rare: here some are put together from others.
        if len(names) > 1 and rng.random() < 0.7:
            name, other = rng.sample(names, 2)
            if database[name].columns == database[other].columns:
                rows = all_rows(database.domain, database[name].columns)
                left = [row for row in rows if row not in database[other]]
                database = database.with_table(name, Table(database[name].columns, *rng.choice((left, database[other].rows))))
            elif database[name].columns == 2 and database[other].columns == 1:
                pairs = [row for row in all_rows(database.domain, 2) if (row[0],) in database[other] and (row[1],) in database[other]]
                database = database.with_table(name, Table(2, *pairs))
        yield database, rng


def shuffled(rng, lot):
    """A tuple of names in any order, with some of them repeated."""
    told = list(lot) + [name for name in lot if rng.random() < 0.3]
    rng.shuffle(told)
    return tuple(told)


def wrong_names(database):
    """The values that are no tuples, and the tuples with a first element that is no table, with their errors."""
    told = all_wrong(InvalidOperation, lambda value: isinstance(value, tuple))
    for value in EVERY_KIND:
        if isinstance(value, tuple):
            unknown = [part for part in value if not isinstance(part, str) or part not in list(database)]
            told += [(value, UnknownName(unknown[0]))] if unknown else []
    first = tuple(database)[:1]
    return told + [
        (first + ("zz", "yy"), UnknownName("zz")), (first + (1, "zz"), UnknownName(1)), (("none",), UnknownName("none")),
        ((["at"],), UnknownName(["at"])), (first + (None,), UnknownName(None)), (list(database), InvalidOperation),
    ]


def wrong_secrets(database):
    told = all_wrong(InvalidTable, lambda value: isinstance(value, Table))
    return told + [(Table(1, ("z",)), InvalidOperation), (Table(3, ("a", "a", "z")), InvalidOperation), ([("a",)], InvalidTable)]


class GivingTest(unittest.TestCase):
    def test_by_all_maps(self):
        for database, rng in some_databases(60, 1):
            for language in GIVING:
                right = Right(database, language)
                for lot in right.lots:
                    told = shuffled(rng, lot)
                    self.assertEqual(tables_given(database, told, language), right.given[lot], (database.tables, told, language))
                    for name in right.names:
                        self.assertIs(is_given(database, told, name, language), name in right.given[lot])
                self.assertEqual(spare(database, language), right.spare())
                self.assertEqual(bases(database, language), right.bases())

    def test_each_table_gives_itself_and_more_tables_give_more(self):
        for database, rng in some_databases(40, 2):
            for language in GIVING:
                right = Right(database, language)
                for lot in right.lots:
                    self.assertTrue(set(lot) <= set(right.given[lot]))
                    self.assertEqual(tables_given(database, right.given[lot], language), right.given[lot])
                    for name in lot:
                        self.assertTrue(set(right.given[right.without(lot, name)]) <= set(right.given[lot]))

    def test_rules_that_have_a_table(self):
        # A table that is put in as the answers of a query of other ones is given.
        rng = random.Random(3)
        shape = {"one": 1, "two": 2}
        for _ in range(60):
            database = database_of(rng, tuple("abc"[:rng.randint(1, 3)]), shape)
            rule = random_rule(rng, rng.randint(0, 2), 3, "xy")
            if not set(rule.tables) <= set(shape):
                continue
            query = Query(len(rule.head), rule)
            more = database.with_table("made", answers(query, database))
            for language in GIVING:
                if query.is_in(language) and not language.endswith("not"):
                    self.assertTrue(is_given(more, ("two", "one"), "made", language))
                    self.assertIn("made", spare(more, language))

    def test_not_asks_for_both(self):
        # In "not" languages all other rows must be what a query has, too.
        database = Database(("a", "b", "c"), p=Table(1, ("a",)), q=Table(1, ("b",)), r=Table(1, ("a",), ("b",)))
        self.assertTrue(is_given(database, ("p", "q"), "r", "flat many unlike"))
        self.assertTrue(is_given(database, ("p", "q"), "r", "flat many not"))
        self.assertFalse(is_given(database, ("p", "q"), "r", "flat one not"))
        self.assertFalse(is_given(database, ("p", "r"), "q", "flat many plain"))
        self.assertFalse(is_given(database, ("p", "r"), "q", "flat one not"))
        self.assertTrue(is_given(database, ("p", "r"), "q", "flat many not"))

    def test_bases_of_unlike_sizes(self):
        database = Database(("a", "b"), t=Table(1, ("a",)), both=Table(2, ("a", "a")), u=Table(1, ("b",)))
        self.assertEqual(bases(database, "flat many not"), (("both",), ("t",), ("u",)))
        self.assertEqual(bases(Database(("a",)), "flat one plain"), ((),))
        self.assertEqual(spare(Database(("a",)), "flat one plain"), ())
        sizes = set()
        for database, _ in some_databases(300, 4):
            sizes.add(len({len(lot) for lot in bases(database, "deep many unlike")}))
        self.assertIn(2, sizes)

    def test_no_names(self):
        full = Database(("a", "b"), all=Table(2, *all_rows("ab", 2)), no=Table(1), un=Table(2, ("a", "b"), ("b", "a")))
        self.assertEqual(tables_given(full, (), "flat one plain"), ("all",))
        self.assertEqual(tables_given(full, (), "flat one unlike"), ("all", "no", "un"))
        self.assertEqual(tables_given(full, (), "flat many plain"), ("all", "no"))
        self.assertEqual(tables_given(full, (), "flat many not"), ("all", "no", "un"))
        self.assertEqual(tables_given(full, ("un", "no", "un"), "flat one plain"), ("all", "no", "un"))

    def test_errors(self):
        for database in (PAIR, PATH):
            name = ("at" if database is PAIR else "edge")
            wrong = [(value, UnknownName(value)) for value in EVERY_KIND if value.__class__ is not str or value not in list(database)]
            check_errors(self, is_given, [
                (database, WRONG_DATABASE), ((name, name), wrong_names(database)), (name, wrong), ("flat one not", WRONG_LANGUAGE),
            ])
            names = [(database, WRONG_DATABASE), ((), wrong_names(database)), ("deep many not", WRONG_LANGUAGE)]
            check_errors(self, tables_given, names)
            for call in (spare, bases):
                check_errors(self, call, [(database, WRONG_DATABASE), ("flat many plain", WRONG_LANGUAGE)])
        check_error(self, UnknownName("values"), is_given, PAIR, ("at",), "values", "deep one plain")
        check_error(self, InvalidOperation, is_given, PAIR, ["at"], "values", "deep one plain")

    def test_other_names_of_values(self):
        for database, rng in some_databases(30, 5):
            mapping = dict(zip(database.domain, rng.sample(("c", "a", "x", "b", "p"), len(database.domain))))
            for language in GIVING:
                renamed = database.renamed(mapping)
                self.assertEqual(bases(renamed, language), bases(database, language))
                self.assertEqual(spare(renamed, language), spare(database, language))


class HarmTest(unittest.TestCase):
    def test_by_all_maps(self):
        for database, rng in some_databases(60, 6):
            columns = rng.choice((0, 1, 1, 2))
            share = rng.random()
            rows = [row for row in all_rows(database.domain, columns) if rng.random() < share]
            tables = [database[name] for name in database] + [Table(columns, *rows)] * 2
            secret = rng.choice(tables)
            for language in GIVING:
                right = Right(database, language)
                harmful = right.harmful(secret)
                for lot in right.lots:
                    told = is_harmful(database, shuffled(rng, lot), secret, language)
                    self.assertIs(told, harmful[lot], (database.tables, lot, secret.rows, language))
                self.assertEqual(least_harmful(database, secret, language), right.least(harmful))
                self.assertEqual(greatest_harmless(database, secret, language), right.greatest(harmful))

    def test_each_of_the_two_tells_the_other_one(self):
        for database, rng in some_databases(60, 7):
            secret = Table(1, *[row for row in all_rows(database.domain, 1) if rng.random() < 0.5])
            names = sorted(database)
            lots = [lot for size in range(len(names) + 1) for lot in itertools.combinations(names, size)]
            for language in GIVING:
                least, greatest = least_harmful(database, secret, language), greatest_harmless(database, secret, language)
                for lot in lots:
                    told = is_harmful(database, lot, secret, language)
                    self.assertIs(told, any(set(one) <= set(lot) for one in least))
                    self.assertIs(not told, any(set(lot) <= set(one) for one in greatest))

    def test_the_other_rows_need_no_query(self):
        # A secret table is told by a query for its rows alone, also in "not" languages.
        database = Database(("a", "b", "c"), p=Table(1, ("a",)), q=Table(1, ("b",)))
        secret = Table(1, ("c",))
        self.assertTrue(is_harmful(database, ("p", "q"), secret, "flat one not"))
        self.assertFalse(is_harmful(database, ("p", "q"), Table(1, ("a",), ("b",)), "flat one not"))
        self.assertTrue(is_harmful(database, ("q", "p", "p"), Table(1, ("a",), ("b",)), "flat many plain"))

    def test_secrets_of_any_number_of_columns(self):
        wide = Table(3, ("a", "a", "a"))
        self.assertEqual(least_harmful(PAIR, wide, "flat one plain"), (("at",), ("mark",)))
        self.assertEqual(greatest_harmless(PAIR, wide, "flat one plain"), ((),))
        self.assertEqual(least_harmful(PAIR, Table(0, ()), "flat one plain"), ((),))
        self.assertEqual(greatest_harmless(PAIR, Table(0, ()), "flat one plain"), ())
        self.assertEqual(least_harmful(PAIR, Table(0), "flat one plain"), ())
        self.assertEqual(least_harmful(PAIR, Table(0), "flat many plain"), ((),))
        self.assertEqual(greatest_harmless(PAIR, Table(0), "flat one plain"), (("at", "mark"),))
        self.assertEqual(least_harmful(Database(("a", "b")), Table(1, ("a",)), "deep many not"), ())
        self.assertEqual(greatest_harmless(Database(("a", "b")), Table(1, ("a",)), "deep many not"), ((),))

    def test_errors(self):
        secret = Table(1, ("a",))
        for database, names in ((PAIR, ("at", "mark", "at")), (THERE, ()), (SPOTS, ("q", "p"))):
            wrong = [(database, WRONG_DATABASE), (secret, wrong_secrets(database)), ("flat one not", WRONG_LANGUAGE)]
            check_errors(self, is_harmful, [wrong[0], (names, wrong_names(database)), *wrong[1:]])
            for call in (least_harmful, greatest_harmless):
                check_errors(self, call, wrong)
        check_error(self, InvalidDatabase, is_harmful, None, None, None, None)
        check_error(self, UnknownName("no"), is_harmful, PAIR, ("no",), None, None)
        check_error(self, InvalidTable, is_harmful, PAIR, (), None, None)


if __name__ == "__main__":
    unittest.main()
