"""The order of rows: [0.1] to [0.6], [0.17], [0.20], [3.1], [13.1] to [13.3], stage 13."""

import inspect
import itertools
import random
import unittest

from askable.ask.answers import answers
from askable.ask.languages import LANGUAGES
from askable.ask.rules import Query, Rule
from askable.ask.trees import closed_tree
from askable.base.databases import Database
from askable.base.tables import Table
from askable.errors import InvalidDatabase, InvalidNumber, InvalidOperation, TooMany
from askable.keep.flat import flat_kinds
from askable.tell.least import can_have
from askable.tell.order import (
    class_order, classes, is_order_paper, leads_to, number_of_tables, order_paper, tables_asked,
)
from oracles import (
    SHAPES, database_of, is_query_of, is_right_mapping, is_right_short_row, is_right_way, right_maps, sign_rows, signs_in,
)
from support import (
    BACK, EVERY_KIND, PATH, POINT, SPOTS, THERE, TIP, all_rows, all_wrong, all_wrong_kept, check_error, check_errors, copy_of,
    is_right_number, is_right_row, random_rule, right_answers, right_ways, same, show,
)
from test_flat import leads
from test_languages import WRONG
from test_maps import WRONG_DATABASE, wrong_rows
from test_trees import any_tree, changed, exchanged, is_right_tree

MANY = [language for language in LANGUAGES if " many " in language]
ONE = [(language, InvalidOperation) for language in LANGUAGES if " one " in language]
WRONG_COLUMNS = all_wrong_kept(InvalidNumber, lambda value: is_right_number(value, 3))


def right_leads(database, row, other, language):
    """Whether a map that keeps the signs makes a row the other one, by trying all dicts [13.1]."""
    if language.startswith("flat"):
        return leads(database, row, database, other, language)
    told = right_maps(database, database, language)
    return any(tuple(mapping[value] for value in row) == other for mapping in told)


def right_order(database, columns, language):
    """The dict from all rows to the lists of the rows to which they lead."""
    rows = all_rows(database.domain, columns)
    if language.startswith("flat"):
        return {row: [other for other in rows if leads(database, row, database, other, language)] for row in rows}
    told = right_maps(database, database, language)
    return {row: sorted({tuple(mapping[value] for value in row) for mapping in told}) for row in rows}


def right_classes(order):
    found = []
    for row in order:
        one = tuple(other for other in order if other in order[row] and row in order[other])
        if one not in found:
            found.append(one)
    return tuple(sorted(found))


def is_keeping_alone(database, row, language, mapping):
    """Whether a map from the values of a row keeps all rows of the signs over them."""
    for sign in signs_in(database.shape, language):
        rows = sign_rows(database, sign)
        for told in rows:
            if all(value in mapping for value in told) and tuple(mapping[value] for value in told) not in rows:
                return False
    return True


def is_right_order_paper(database, row, other, language, value):
    """Whether a value is an order paper, from the words of [13.3]."""
    if not isinstance(value, tuple) or len(value) not in (2, 4) or not isinstance(value[0], str):
        return False
    if value[0] == "map" and len(value) == 2:
        keys = database.domain if language.startswith("deep") else sorted(set(row))
        if not is_right_mapping(value[1], keys, database.domain):
            return False
        return tuple(value[1][part] for part in row) == other and is_keeping_alone(database, row, language, value[1])
    if value[0] != "parted" or len(value) != 4 or not isinstance(value[1], Rule):
        return False
    _, rule, way, tree = value
    if len(rule.head) != len(row) or not is_query_of(Query(len(row), rule), language):
        return False
    if not all(name in database.shape and database.shape[name] == many for name, many in rule.tables.items()):
        return False
    if not is_right_way(Query(len(row), rule), database, row, (0, way)):
        return False
    return is_right_tree(rule, database, (other,), tree, {})


def some_database(rng, most_values=3):
    return database_of(rng, tuple("abc"[:rng.randint(1, most_values)]), rng.choice(SHAPES))


def some_pairs(many, seed, most_values=3):
    """Databases with two rows of one length."""
    rng = random.Random(seed)
    for _ in range(many):
        database = some_database(rng, most_values)
        columns = rng.choice((0, 1, 1, 2, 2, 3))
        rows = all_rows(database.domain, columns)
        yield database, rng.choice(rows), rng.choice(rows), rng


def changed_order_papers(database, value, rng):
    """Values like an order paper with one part exchanged, left out, put in, or of another kind."""
    yield value[1:]
    yield value[:-1]
    yield value + (1,)
    yield list(value)
    for word in ("map", "parted", "keeper", "query", None, ["map"], 0):
        yield (word,) + value[1:]
    if value[0] == "map":
        told = value[1]
        yield "map", tuple(told.items())
        for name in told:
            yield "map", {other: told[other] for other in told if other != name}
            for part in database.domain + ("q", None, ["a"], 1):
                yield "map", {**told, name: part}
        for name in ("a", "b", "c", "q", ("a",), 1, None):
            yield "map", {**told, name: "a"}
        return
    _, rule, way, tree = value
    rules = [None, rule.atoms, Query(len(rule.head), rule), Rule(rule.head), Rule(rule.head[1:]), TIP, Rule(())]
    rules += [rule.without_atom(atom) for atom in rule.atoms[:3]] + [rule.with_atom(("unlike", "a", "a"))]
    rules += [rule.with_atom(("in", "more", ("a",))), rule.with_atom(("in", "more", ()))]
    for part in rules:
        yield "parted", part, way, tree
    for name in way:
        yield "parted", rule, {other: way[other] for other in way if other != name}, tree
        for part in database.domain + ("q", None, ["a"]):
            yield "parted", rule, {**way, name: part}, tree
    for part in ({**way, "q": "a"}, tuple(way.items()), None, (0, way)):
        yield "parted", rule, part, tree
    leaves = [("fine",), None] + [("broken", atom) for atom in rule.atoms[:2]]
    others = [one for leaf in leaves for one in exchanged(tree, leaf)] + list(changed(tree)) + [(tree,), ((tree,),)]
    for part in rng.sample(others, min(40, len(others))):
        yield "parted", rule, way, part


class LeadsTest(unittest.TestCase):
    def test_by_all_maps(self):
        for database, row, other, _ in some_pairs(200, 1):
            for language in LANGUAGES:
                told = leads_to(database, row, other, language)
                self.assertIs(told, right_leads(database, row, other, language), (database.tables, row, other, language))

    def test_by_queries(self):
        # A row leads to another one just if no rule of any query that has the one lacks the other.
        rng = random.Random(2)
        shape = {"none": 0, "one": 1, "two": 2, "three": 3}
        for _ in range(150):
            database = database_of(rng, tuple("ab"), shape)
            columns = rng.randint(1, 2)
            rule = random_rule(rng, columns, 3, "xyz")
            rows = right_answers(rule, database)
            for language in LANGUAGES:
                if is_query_of(Query(columns, rule), language):
                    for row in rows:
                        for other in all_rows(database.domain, columns):
                            if other not in rows:
                                self.assertFalse(leads_to(database, row, other, language))

    def test_one_or_many_does_not_matter(self):
        for database, row, other, _ in some_pairs(60, 3):
            for language in MANY:
                one = language.replace("many", "one")
                self.assertEqual(leads_to(database, row, other, language), leads_to(database, row, other, one))

    def test_most_values(self):
        values = tuple("abcdef")
        ring = Database(values, next=Table(2, *zip(values, values[1:] + values[:1])))
        for language in LANGUAGES:
            deep = language.startswith("deep")
            self.assertTrue(leads_to(ring, ("a", "c"), ("b", "d"), language))
            self.assertIs(leads_to(ring, ("a", "c"), ("b", "e"), language), not deep)
            self.assertIs(leads_to(ring, ("a", "d"), ("d", "d"), language), not deep and language.endswith("plain"))

    def test_errors(self):
        for row, other in (((), ()), (("a",), ("b",)), (("a", "b"), ("b", "b")), (("a", "a", "b"), ("b", "a", "c"))):
            wrong = all_wrong(InvalidOperation, lambda value: is_right_row(value, len(row), PATH.domain)) + [
                (("z",) * len(row), InvalidOperation), (("a",) * (len(row) + 1), InvalidOperation), (("a",) * 4, InvalidOperation),
            ][len(row) == 0:]
            parameters = [(PATH, WRONG_DATABASE), (row, wrong_rows(PATH.domain)), (other, wrong), ("flat one not", WRONG)]
            for call in (leads_to, order_paper, lambda *told: is_order_paper(*told, None)):
                if call is leads_to or len(row) == 1:
                    check_errors(self, call, parameters)
                check_error(self, InvalidDatabase, call, None, 1, 1, "deep")
                check_error(self, InvalidOperation, call, PATH, ("a",), ("a", "b"), "deep one plain")
                check_error(self, InvalidOperation, call, PATH, ("a",) * 4, ("a",) * 4, "deep one plain")


class OrderPaperTest(unittest.TestCase):
    def test_just_one_form(self):
        for database, row, other, _ in some_pairs(150, 4):
            for language in LANGUAGES:
                told = order_paper(database, row, other, language)
                self.assertEqual(told[0], "map" if right_leads(database, row, other, language) else "parted")
                self.assertTrue(is_right_order_paper(database, row, other, language, told), (database.tables, row, other, told))
                self.assertIs(is_order_paper(database, row, other, language, told), True)
                for mapping in [part for part in told if isinstance(part, dict)]:
                    self.assertEqual(list(mapping), sorted(mapping))

    def test_papers_of_others(self):
        # Any rule, any names of variables, any choices, any order of keys.
        shape = {"none": 0, "one": 1, "two": 2, "three": 3}
        rng = random.Random(5)
        tried = 0
        while tried < 120:
            columns = rng.randint(0, 2)
            database = database_of(rng, tuple("abc"[:rng.randint(1, 3)]), shape)
            rule = random_rule(rng, columns, 3)
            rows = right_answers(rule, database)
            others = [row for row in all_rows(database.domain, columns) if row not in rows]
            if not rows or not others:
                continue
            tried += 1
            row, other = rng.choice(rows), rng.choice(others)
            way = rng.choice(right_ways(rule, database, row))
            way = {name: way[name] for name in rng.sample(sorted(way), len(way))}
            value = "parted", rule, way, any_tree(rng, rule, database, (other,), {})
            for language in LANGUAGES:
                right = is_query_of(Query(columns, rule), language)
                self.assertIs(is_order_paper(database, row, other, language, value), right)
                if right:
                    self.assertFalse(leads_to(database, row, other, language))

    def test_maps_of_others(self):
        for database, row, other, rng in some_pairs(80, 6):
            for language in LANGUAGES:
                keys = list(database.domain) if language.startswith("deep") else sorted(set(row))
                for values in itertools.product(database.domain, repeat=len(keys)):
                    pairs = list(zip(keys, values))
                    rng.shuffle(pairs)
                    value = "map", dict(pairs)
                    right = is_right_order_paper(database, row, other, language, value)
                    self.assertIs(is_order_paper(database, row, other, language, value), right)

    def test_changed_papers(self):
        for database, row, other, rng in some_pairs(60, 7):
            for language in rng.sample(LANGUAGES, 4):
                value = order_paper(database, row, other, language)
                before = copy_of(value)
                for told in changed_order_papers(database, value, rng):
                    right = is_right_order_paper(database, row, other, language, told)
                    self.assertIs(is_order_paper(database, row, other, language, told), right, (database.tables, row, other, show(told)))
                self.assertTrue(same(before, value))

    def test_papers_for_others(self):
        # A paper for one language is judged for all others, and for other rows.
        for database, row, other, rng in some_pairs(50, 8):
            told = order_paper(database, row, other, rng.choice(LANGUAGES))
            for language in LANGUAGES:
                for one, two in ((row, other), (other, row), (row, row)):
                    right = is_right_order_paper(database, one, two, language, told)
                    self.assertIs(is_order_paper(database, one, two, language, told), right)

    def test_every_kind(self):
        for value in EVERY_KIND:
            for database, row, other in ((PATH, ("a",), ("b",)), (PATH, (), ()), (POINT, ("b",), ("a",))):
                for language in ("flat one plain", "deep many not"):
                    right = is_right_order_paper(database, row, other, language, value)
                    self.assertIs(is_order_paper(database, row, other, language, value), right, show(value))
                for part in (value, (value,), ("map", value), ("parted", value, {}, ("fine",)), ("parted", TIP, value, ("fine",)),
                             ("parted", TIP, {"x": "a", "y": "b", "z": "c"}, value), ("map", {"a": value})):
                    right = is_right_order_paper(database, row, other, "deep one unlike", part)
                    self.assertIs(is_order_paper(database, row, other, "deep one unlike", part), right, show(part))

    def test_the_document_says(self):
        tree = closed_tree(TIP, PATH, (("b",),))
        value = ("parted", TIP, {"z": "c", "y": "b", "x": "a"}, tree)
        self.assertTrue(is_order_paper(PATH, ("a",), ("b",), "deep one unlike", value))
        self.assertFalse(is_order_paper(PATH, ("a",), ("b",), "deep one plain", value))
        self.assertFalse(is_order_paper(PATH, ("a",), ("b",), "flat many not", value))
        self.assertFalse(is_order_paper(PATH, ("a",), ("c",), "deep one unlike", value))
        self.assertFalse(is_order_paper(POINT, ("a",), ("b",), "deep one unlike", value))

    def test_what_is_returned_is_a_copy(self):
        told = order_paper(PATH, ("a",), ("c",), "deep one not")
        told[1].clear()
        self.assertEqual(order_paper(PATH, ("a",), ("c",), "deep one not"), ("map", {"a": "c", "b": "b", "c": "a"}))

    def test_other_names_of_values(self):
        for database, row, other, rng in some_pairs(60, 9):
            mapping = dict(zip(database.domain, rng.sample(("c", "a", "x", "b", "p"), len(database.domain))))
            renamed = database.renamed(mapping)
            rows = [tuple(mapping[value] for value in told) for told in (row, other)]
            for language in LANGUAGES:
                self.assertEqual(leads_to(renamed, *rows, language), leads_to(database, row, other, language))
                told = classes(database, len(row), language)
                right = sorted(tuple(sorted(tuple(mapping[value] for value in one) for one in rows)) for rows in told)
                self.assertEqual(classes(renamed, len(row), language), tuple(right))


class ClassesTest(unittest.TestCase):
    def test_by_all_maps(self):
        rng = random.Random(10)
        for _ in range(60):
            database = some_database(rng)
            columns = rng.choice((0, 1, 1, 2, 2, 3)) if len(database.domain) < 3 else rng.choice((0, 1, 2))
            for language in LANGUAGES:
                order = right_order(database, columns, language)
                right = right_classes(order)
                self.assertEqual(classes(database, columns, language), right)
                pairs = tuple(
                    (at, to) for at, one in enumerate(right) for to, other in enumerate(right)
                    if at != to and other[0] in order[one[0]]
                )
                self.assertEqual(class_order(database, columns, language), pairs)
                if language.startswith("flat"):
                    self.assertEqual(right, flat_kinds(database, columns, language))

    def test_no_class_but_one(self):
        for language in LANGUAGES:
            self.assertEqual(classes(PATH, 0, language), (((),),))
            self.assertEqual(class_order(PATH, 0, language), ())
            self.assertEqual(classes(Database(("a",)), 3, language), ((("a", "a", "a"),),))
            self.assertEqual(classes(Database(("b", "a")), 1, language), ((("a",), ("b",)),))

    def test_most_values(self):
        values = tuple("abcdef")
        for language in LANGUAGES:
            told = classes(Database(values), 3, language)
            order = class_order(Database(values), 3, language)
            self.assertEqual(sorted(len(one) for one in told), [6, 30, 30, 30, 120])
            self.assertEqual(len(order), 0 if "plain" not in language else 7)
        line = Database(values, next=Table(2, *zip(values, values[1:])))
        self.assertEqual(classes(line, 3, "deep one plain"), tuple((row,) for row in all_rows(values, 3)))

    def test_errors(self):
        for call in (classes, class_order):
            check_errors(self, call, [(PATH, WRONG_DATABASE), (1, WRONG_COLUMNS), ("flat one plain", WRONG)])
        for call in (number_of_tables, lambda *told: list(tables_asked(*told))):
            check_errors(self, call, [(PATH, WRONG_DATABASE), (1, WRONG_COLUMNS), ("flat many plain", WRONG + ONE)])


def up_sets(order):
    """All sets of rows that have all rows to which one of them leads, by trying all."""
    rows = list(order)
    found = []
    for size in range(len(rows) + 1):
        for told in itertools.combinations(rows, size):
            if all(set(order[row]) <= set(told) for row in told):
                found.append(told)
    return found


class TablesTest(unittest.TestCase):
    def test_by_all_sets_of_rows(self):
        rng = random.Random(11)
        for _ in range(50):
            database = some_database(rng)
            columns = rng.choice((0, 1, 1, 2)) if len(database.domain) < 3 else rng.choice((0, 1, 1, 2))
            for language in MANY:
                order = right_order(database, columns, language)
                right = up_sets(order)
                told = list(tables_asked(database, columns, language))
                self.assertEqual(told, [Table(columns, *rows) for rows in right])
                self.assertEqual(number_of_tables(database, columns, language), len(right))
                for table in rng.sample(told, min(5, len(told))):
                    self.assertTrue(can_have((database,), (table,), language))

    def test_they_are_what_a_query_can_have(self):
        rng = random.Random(12)
        for _ in range(25):
            database = some_database(rng)
            rows = all_rows(database.domain, 1)
            for language in MANY:
                told = list(tables_asked(database, 1, language))
                for size in range(len(rows) + 1):
                    for some in itertools.combinations(rows, size):
                        table = Table(1, *some)
                        self.assertEqual(can_have((database,), (table,), language), table in told)

    def test_answers_of_queries_are_among_them(self):
        rng = random.Random(13)
        shape = {"none": 0, "one": 1, "two": 2, "three": 3}
        for _ in range(60):
            database = database_of(rng, tuple("ab"), shape)
            columns = rng.randint(0, 2)
            query = Query(columns, *[random_rule(rng, columns) for _ in range(rng.randint(0, 2))])
            language = query.language.replace("one", "many")
            self.assertIn(answers(query, database), list(tables_asked(database, columns, language)))

    def test_order(self):
        # Sixteen classes, none of which leads to another one.
        marked = Database(tuple("abcd"), p=Table(1, ("a",)), q=Table(1, ("b",)), r=Table(1, ("c",)))
        self.assertEqual(len(classes(marked, 2, "deep many not")), 16)
        self.assertEqual(class_order(marked, 2, "deep many not"), ())
        self.assertEqual(number_of_tables(marked, 2, "deep many not"), 65536)
        last = None
        for table in itertools.islice(tables_asked(marked, 2, "deep many not"), 3000):
            place = (len(table), table.rows)
            self.assertTrue(last is None or last < place)
            last = place
        self.assertEqual(number_of_tables(Database(tuple("abcdef")), 3, "deep many unlike"), 32)
        self.assertEqual([len(table) for table in tables_asked(Database(tuple("ab")), 2, "flat many not")], [0, 2, 2, 4])

    def test_bound(self):
        values = tuple("abcdef")
        line = Database(values, next=Table(2, *zip(values, values[1:])))
        for database, columns, language in (
            (line, 2, "deep many plain"), (line, 3, "deep many not"), (line, 3, "flat many not"),
        ):
            self.assertGreater(len(classes(database, columns, language)), 16)
            check_error(self, TooMany(16), number_of_tables, database, columns, language)
            check_error(self, TooMany(16), tables_asked, database, columns, language)
            check_error(self, InvalidOperation, number_of_tables, database, columns, language.replace("many", "one"))

    def test_sixteen_classes_and_seventeen(self):
        # Four sorts of values: pairs of each two sorts, and of one value; with two values of a sort their pairs, too.
        sixteen = Database(tuple("abcd"), p=Table(1, ("a",), ("b",)), q=Table(1, ("a",), ("c",)))
        for language in ("flat many not", "deep many not"):
            self.assertEqual(number_of_tables(sixteen, 2, language), 65536)
            self.assertEqual(next(tables_asked(sixteen, 2, language)), Table(2))
            seventeen = sixteen.with_value("e")
            self.assertEqual(len(classes(seventeen, 2, language)), 17)
            check_error(self, TooMany(16), number_of_tables, seventeen, 2, language)
            check_error(self, TooMany(16), tables_asked, seventeen, 2, language)

    def test_generator(self):
        self.assertTrue(inspect.isgenerator(tables_asked(None, None, None)))
        for _ in range(2):
            self.assertEqual([len(table) for table in tables_asked(POINT, 1, "flat many plain")], [0, 1, 2])
        self.assertEqual(list(tables_asked(BACK, 0, "flat many plain")), [Table(0), Table(0, ())])


if __name__ == "__main__":
    unittest.main()
