"""Maps of one place: [0.1] to [0.5], [0.20], [5.1], stage 5."""

import inspect
import itertools
import random
import unittest

from askable.ask.languages import LANGUAGES
from askable.ask.rules import Query
from askable.ask.answers import answers
from askable.base.databases import Database
from askable.base.tables import Table
from askable.errors import InvalidDatabase, InvalidOperation
from askable.keep.maps import behind, images, is_map, is_symmetry, map_of, maps, symmetries, turned
from oracles import (
    SHAPES, database_of, is_dict_of_names, is_right_mapping, is_right_short_row, keeps_all, right_maps, sign_rows, signs_in,
)
from support import (
    BACK, EVERY_KIND, PATH, POINT, SPOTS, THERE, all_rows, all_wrong, check_error, check_errors, copy_of, random_rule, same, show,
    wrong_objects,
)
from test_languages import WRONG

LASTS = ("flat one plain", "deep many unlike", "flat many not")
WRONG_DATABASE = wrong_objects(InvalidDatabase, Database)
ALONE = Database(("a",), to=Table(2))


def wrong_rows(values):
    """The pairs of values that are no rows of at most three of some values, and their error."""
    told = all_wrong(InvalidOperation, lambda value: is_right_short_row(value, values))
    more = (("a", "z"), ("a",) * 4, ["a"], "a", ("a", ["a"]), ("A",), (None,))
    return told + [(value, InvalidOperation) for value in more]


def some_pairs(many, seed):
    """Pairs of databases of one shape, sometimes one database twice."""
    rng = random.Random(seed)
    for _ in range(many):
        shape = rng.choice(SHAPES + [{"one": 1, "three": 3}])
        first = database_of(rng, tuple("abc"[:rng.randint(1, 3)]), shape)
        second = first if rng.random() < 0.3 else database_of(rng, tuple("abc"[:rng.randint(1, 3)]), shape)
        yield first, second, rng


class MapsTest(unittest.TestCase):
    def test_all_dicts(self):
        for first, second, _ in some_pairs(120, 1):
            for language in LASTS:
                right = right_maps(first, second, language)
                told = list(maps(first, second, language))
                self.assertEqual(told, right)
                self.assertTrue(all(list(one) == list(first.domain) for one in told))
                for mapping in itertools.product(second.domain, repeat=len(first.domain)):
                    mapping = dict(zip(first.domain, mapping))
                    self.assertIs(is_map(first, second, language, mapping), mapping in right)

    def test_the_last_word_alone_counts(self):
        for first, second, _ in some_pairs(20, 2):
            for language in LANGUAGES:
                like = [word for word in LASTS if word.split(" ")[2] == language.split(" ")[2]][0]
                self.assertEqual(list(maps(first, second, language)), list(maps(first, second, like)))
                for told in maps(first, second, like):
                    self.assertIs(is_map(first, second, language, told), True)

    def test_no_map_and_one_value(self):
        self.assertEqual(list(maps(BACK, THERE, "deep one plain")), [])
        self.assertEqual(list(maps(THERE, ALONE, "deep one plain")), [])
        self.assertEqual(list(maps(ALONE, THERE, "deep one plain")), [{"a": "a"}, {"a": "b"}])
        self.assertEqual(list(maps(ALONE, ALONE, "flat one not")), [{"a": "a"}])
        self.assertEqual(list(maps(PATH, PATH, "deep one not")), list(symmetries(PATH)))
        self.assertEqual(list(maps(PATH, PATH.without_table("edge").with_table("edge", Table(2)), "deep one plain")), [])

    def test_without_tables_and_columns(self):
        three, two = Database(("a", "b", "c")), Database(("a", "b"))
        self.assertEqual(len(list(maps(three, two, "deep one plain"))), 8)
        self.assertEqual(list(maps(three, two, "deep one unlike")), [])
        self.assertEqual(len(list(maps(two, three, "deep one unlike"))), 6)
        full, void = Database(("a",), t=Table(0, ())), Database(("a",), t=Table(0))
        for one, other, word in itertools.product((full, void), (full, void), ("plain", "not")):
            right = one == other or word == "plain" and one == void
            self.assertEqual(list(maps(one, other, "flat one " + word)), [{"a": "a"}] if right else [])

    def test_maps_behind_one_another(self):
        rng = random.Random(3)
        for _ in range(30):
            shape = rng.choice(SHAPES)
            one, two, three = [database_of(rng, tuple("ab"), shape, 0.6) for _ in range(3)]
            for language in LASTS:
                for first in list(maps(one, two, language)):
                    for second in list(maps(two, three, language)):
                        self.assertIs(is_map(one, three, language, behind(first, second)), True)

    def test_they_keep_answers(self):
        # A map that keeps the signs of a language makes answers of its queries answers.
        rng = random.Random(4)
        shape = {"none": 0, "one": 1, "two": 2, "three": 3}
        for _ in range(60):
            first, second = database_of(rng, tuple("ab"), shape, 0.7), database_of(rng, tuple("abc"), shape, 0.7)
            query = Query(2, random_rule(rng, 2))
            language = query.language
            rows = answers(query, second)
            for told in list(maps(first, second, language))[:10]:
                for row in answers(query, first):
                    self.assertIn(tuple(told[value] for value in row), rows)

    def test_generators_begin_anew(self):
        self.assertTrue(inspect.isgenerator(maps(PATH, PATH, "deep one plain")))
        first = maps(PATH, PATH, "deep one plain")
        next(first).clear()
        self.assertEqual(len(list(first)), 5)
        self.assertEqual(len(list(maps(PATH, PATH, "deep one plain"))), 6)
        self.assertTrue(inspect.isgenerator(maps(1, 2, 3)))

    def test_six_values(self):
        six = Database(tuple("fedcba"))
        self.assertEqual(len(list(maps(six, six, "deep one plain"))), 6 ** 6)
        self.assertEqual(len(list(symmetries(six))), 720)
        ring = Database(tuple("abcdef"), r=Table(2, *[("abcdef"[at], "bcdefa"[at]) for at in range(6)]))
        self.assertEqual(len(list(maps(ring, ring, "deep one not"))), 6)

    def test_errors(self):
        for call in (lambda *three: list(maps(*three)), lambda *three: is_map(*three, {"a": "a", "b": "b"})):
            check_errors(self, call, [(THERE, WRONG_DATABASE), (BACK, WRONG_DATABASE), ("deep one not", WRONG)])
            check_error(self, InvalidOperation, call, THERE, PATH, "deep one not")
            check_error(self, InvalidOperation, call, THERE, Database(("a", "b"), to=Table(1)), "deep one not")
            check_error(self, InvalidOperation, call, THERE, BACK.with_table("more", Table(0)), "deep one not")
            check_error(self, InvalidDatabase, call, THERE, None, "deep")

    def test_errors_come_with_the_first_value(self):
        waiting = maps(THERE, PATH, "deep one not")
        with self.assertRaises(InvalidOperation):
            next(waiting)
        waiting = symmetries(None)
        with self.assertRaises(InvalidDatabase):
            next(waiting)


class IsMapTest(unittest.TestCase):
    def test_keys_in_any_order(self):
        self.assertIs(is_map(THERE, BACK, "deep one plain", {"b": "b", "a": "a"}), True)
        self.assertIs(is_symmetry(PATH, {"c": "a", "a": "c", "b": "b"}), True)

    def test_it_refuses(self):
        wrong = [
            {}, {"a": "a"}, {"a": "a", "b": "b", "c": "a"}, {"a": "a", "c": "b"}, {"a": "a", "b": "c"}, {"a": "a", "b": None},
            {"a": "a", "b": ["b"]}, (("a", "a"), ("b", "b")), [("a", "a"), ("b", "b")], {"a": "a", "b": "b", 1: "a"}, {1: "a", 2: "b"},
            {("a",): "a", ("b",): "b"}, {"a": "b", "b": "b"}, {"a": True, "b": "b"}, {"a": ("a",), "b": "b"},
        ]
        for value in wrong + EVERY_KIND:
            for call, database in ((is_map, THERE), (is_symmetry, None)):
                right = is_right_mapping(value, "ab", "ab") and keeps_all(THERE, THERE, "flat one unlike", value)
                if call is is_map:
                    self.assertIs(is_map(THERE, database, "flat one unlike", value), right, show(value))
                else:
                    self.assertIs(is_symmetry(THERE, value), right, show(value))


class ImagesTest(unittest.TestCase):
    def test_map_of_and_images(self):
        for first, second, rng in some_pairs(60, 5):
            for language in LASTS:
                right = right_maps(first, second, language)
                columns = rng.randint(0, 3)
                for row in rng.sample(all_rows(first.domain, columns), min(3, len(first.domain) ** columns)):
                    become = sorted({tuple(told[value] for value in row) for told in right})
                    table = images(first, row, second, language)
                    self.assertEqual((table.columns, table.rows), (columns, tuple(become)))
                    for other in all_rows(second.domain, columns):
                        told = map_of(first, row, second, other, language)
                        if other in become:
                            self.assertIn(told, right)
                            self.assertEqual(tuple(told[value] for value in row), other)
                            self.assertEqual(list(told), list(first.domain))
                        else:
                            self.assertIsNone(told)

    def test_rows_without_values_and_with_a_value_twice(self):
        self.assertEqual(images(THERE, (), BACK, "deep one plain"), Table(0, ()))
        self.assertEqual(images(BACK, (), THERE, "deep one plain"), Table(0))
        self.assertEqual(images(PATH, ("a", "b", "a"), PATH, "deep one unlike").rows, (("a", "b", "a"), ("c", "b", "c")))
        self.assertIsNone(map_of(PATH, ("a", "a"), PATH, ("a", "c"), "deep one plain"))
        self.assertIsNotNone(map_of(PATH, ("a", "c"), PATH, ("a", "a"), "deep one plain"))
        self.assertEqual(map_of(THERE, (), BACK, (), "deep one unlike"), {"a": "a", "b": "b"})

    def test_errors(self):
        row, other = (("a", "b"), wrong_rows("ab")), (("b", "a"), wrong_rows("ab"))
        first, second = (THERE, WRONG_DATABASE), (BACK, WRONG_DATABASE)
        check_errors(self, map_of, [first, row, second, other, ("deep one not", WRONG)])
        check_errors(self, images, [first, row, second, ("deep one not", WRONG)])
        for call in (map_of, lambda first, row, second, _, language: images(first, row, second, language)):
            check_error(self, InvalidOperation, call, THERE, ("a",), PATH, ("a",), "deep one not")
            check_error(self, InvalidDatabase, call, THERE, ("a",), 1, ("z",), "deep")
            check_error(self, InvalidOperation, call, THERE, ("c",), 1, ("z",), "deep")
        check_error(self, InvalidOperation, map_of, THERE, ("a",), PATH, ("c",), "deep one not")
        for one, two in itertools.permutations(((), ("a",), ("a", "b"), ("a", "b", "b")), 2):
            check_error(self, InvalidOperation, map_of, THERE, one, BACK, two, "deep one not")
        wide = Database(("a", "b", "z"), to=Table(2))
        self.assertIsNotNone(map_of(wide, ("z",), BACK, ("a",), "deep one plain"))
        check_error(self, InvalidOperation, map_of, BACK, ("a",), wide, ("y",), "deep one plain")
        check_error(self, InvalidOperation, map_of, BACK, ("z",), wide, ("a",), "deep one plain")


class SymmetriesTest(unittest.TestCase):
    def test_all_permutations(self):
        rng = random.Random(6)
        for _ in range(60):
            database = database_of(rng, tuple("dacb"[:rng.randint(1, 4)]), rng.choice(SHAPES))
            found = []
            for told in itertools.permutations(database.domain):
                mapping = dict(zip(database.domain, told))
                if all(table.mapped({x: mapping[x] for x in table.domain}) == table for table in database.tables.values()):
                    found.append(mapping)
            self.assertEqual(list(symmetries(database)), found)
            for told in itertools.product(database.domain, repeat=len(database.domain)):
                mapping = dict(zip(database.domain, told))
                self.assertIs(is_symmetry(database, mapping), mapping in found)

    def test_they_keep_all_signs_and_so_do_the_turned_ones(self):
        for database in (PATH, POINT, THERE, BACK, SPOTS, ALONE, Database(("b", "a", "c"), t=Table(3, ("a", "b", "c")))):
            for told in symmetries(database):
                for mapping in (told, turned(told)):
                    self.assertTrue(is_symmetry(database, mapping))
                    for sign in signs_in(database.shape, "flat one not"):
                        rows = sign_rows(database, sign)
                        self.assertEqual(sorted(tuple(mapping[x] for x in row) for row in rows), rows)
                self.assertEqual(behind(told, turned(told)), {value: value for value in database.domain})

    def test_errors(self):
        check_errors(self, lambda database: list(symmetries(database)), [(PATH, WRONG_DATABASE)])
        check_errors(self, lambda database: is_symmetry(database, {}), [(PATH, WRONG_DATABASE)])

    def test_it_begins_anew(self):
        self.assertTrue(inspect.isgenerator(symmetries(PATH)))
        for told in symmetries(PATH):
            told.clear()
        self.assertEqual(len(list(symmetries(PATH))), 2)


class DictsTest(unittest.TestCase):
    def test_turned(self):
        told = turned({"b": "z", "a": "m", "c": "a"})
        self.assertEqual((told, list(told)), ({"a": "c", "m": "a", "z": "b"}, ["a", "m", "z"]))
        self.assertEqual([turned({}), turned({"a": "a"}), turned(turned({"x": "b", "y": "a"}))], [{}, {"a": "a"}, {"x": "b", "y": "a"}])

    def test_behind(self):
        told = behind({"z": "b", "a": "b", "m": "c"}, {"c": "x", "b": "yy", "q": "q"})
        self.assertEqual((told, list(told)), ({"a": "yy", "m": "x", "z": "yy"}, ["a", "m", "z"]))
        self.assertEqual([behind({}, {}), behind({}, {"a": "b"})], [{}, {}])

    def test_errors(self):
        def is_one_to_one(value):
            return is_dict_of_names(value) and len(set(value.values())) == len(value)

        more = [{"a": "b", "c": "b"}, {"a": ["b"]}, {"a": None}, {1: "a", "a": "b"}, {("a",): "b"}, {"a": "B"}, {"A": "b"}, {"a": "b", "": "c"}]
        more.append({"a": "abcdefghi"})
        wrong = all_wrong(InvalidOperation, is_one_to_one) + [(value, InvalidOperation) for value in more]
        check_errors(self, turned, [({"a": "b"}, wrong)])
        wrong = all_wrong(InvalidOperation, is_dict_of_names) + [(value, InvalidOperation) for value in more[1:]]
        check_errors(self, behind, [({}, wrong), ({"a": "b"}, wrong)])
        check_error(self, InvalidOperation, behind, {"a": "b"}, {"a": "b"})
        check_error(self, InvalidOperation, behind, {"a": "b", "b": "c"}, {"b": "b"})
        self.assertEqual(behind({"a": "b", "c": "b"}, {"b": "b"}), {"a": "b", "c": "b"})

    def test_arguments_stay(self):
        one, other = {"b": "a", "a": "b"}, {"b": "c", "a": "c"}
        before = copy_of((one, other))
        turned(one).clear()
        behind(one, other).clear()
        is_map(THERE, BACK, "deep one plain", one)
        is_symmetry(BACK, one)
        self.assertTrue(same((one, other), before))
        self.assertEqual((list(one), list(other)), (["b", "a"], ["b", "a"]))


if __name__ == "__main__":
    unittest.main()
