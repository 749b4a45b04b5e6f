"""Places, keys, key rows: [0.1] to [0.5], [0.9], [0.13], [0.14], [0.17], [0.20], [0.21], [7.1], [7.2], stage 7."""

import inspect
import itertools
import random
import unittest

from askable.ask.answers import answers
from askable.ask.languages import LANGUAGES
from askable.ask.rules import Query
from askable.base.databases import Database
from askable.base.tables import Table, whole_table
from askable.errors import InvalidExamples, InvalidOperation, TooMany
from askable.keep.places import columns_of, is_key_row, key_rows, keys_of, rule_of
from askable.wish.examples import Examples
from oracles import (
    is_right_places, many_examples, right_columns, right_key_rows, right_keys, right_places, right_thrown,
    sign_rows, sign_width, signs_in, whole_keys,
)
from support import (
    BEGIN, ENDS, EVERY_KIND, POINT, REST, THERE, all_rows, all_wrong, check_error, check_errors, copy_of, same, show,
)
from test_examples import WRONG_EXAMPLES
from test_languages import WRONG


def wrong_places(examples):
    """The pairs of values that are no ascending tuple of places, and their error."""
    told = all_wrong(InvalidOperation, lambda value: is_right_places(examples, value))
    places = right_places(examples)
    first = places[0]
    more = [
        (first, first), places[::-1], list(places), (list(first),), ((True, first[1]),), ((bool(first[0]), first[1]),), ((first[0], list(first[1])),), first,
        ((first[0],),), (first + (0,),), ((len(examples), first[1]),), ((-1, first[1]),), ((first[0], ("z",) * examples.columns),),
        ((first[1], first[0]),), (None,), ((first[0], None),), ((str(first[0]), first[1]),), {first: True},
    ]
    return told + [(value, InvalidOperation) for value in more if not is_right_places(examples, value)]


def wrong_signs(examples, language):
    """The pairs of values that are no sign of a language, and their error."""
    signs = signs_in(examples.shape, language)
    told = all_wrong(InvalidOperation, lambda value: isinstance(value, tuple) and value in signs)
    more = [("in", "none"), ("unlike", "edge"), ["unlike"], ["in", "edge"], ("in",), ("in", "edge", ()), "unlike", ("out", 1), ("in", ["edge"])]
    return told + [(value, InvalidOperation) for value in more]


def lots_of_places(examples, rng, most=9):
    """Some tuples of places: none, all, and others."""
    places = right_places(examples)
    told = [(), places] + [(place,) for place in places]
    told += [tuple(place for place in places if rng.random() < 0.5) for _ in range(2)]
    return [one for one in told if len(whole_keys(examples, one)) <= most]


def number_examples(*numbers, columns=3):
    """Examples with a case for each pair: a database with so many values and no tables, and so many rows that must."""
    cases = []
    for values, many in numbers:
        database = Database(tuple("abcdef"[:values]))
        cases.append((database, tuple(all_rows(database.domain, columns)[:many]), ()))
    return Examples(columns, *cases)


# Examples whose maps from all places just reach the bound in "deep" languages, and others that go beyond it.
JUST_REACHED = [
    number_examples((2, 4)), number_examples((2, 2), (2, 2)), number_examples((3, 2)), number_examples((4, 1), (2, 1)),
    number_examples((4, 0), (2, 3)), number_examples((5, 1)), number_examples((6, 1)), number_examples((6, 0), (5, 1), (1, 1)),
    number_examples((1, 1), (1, 1), (2, 4), (1, 1)), number_examples((3, 1), (3, 1)), number_examples((3, 0), (2, 3)),
    number_examples((1, 1)), number_examples((6, 0)), number_examples((6, 0), (2, 2)),
]
JUST_BEYOND = [
    number_examples((2, 5)), number_examples((2, 3), (2, 2)), number_examples((3, 3)), number_examples((4, 2)),
    number_examples((4, 1), (3, 1)), number_examples((5, 0), (2, 3)), number_examples((5, 1), (2, 1)), number_examples((6, 1), (2, 1)),
    number_examples((6, 0), (2, 3)), number_examples((3, 0), (2, 4)), number_examples((4, 0), (3, 2)), number_examples((6, 216), (6, 216)),
    number_examples(*[(6, 216)] * 4),
]


class KeysTest(unittest.TestCase):
    def test_columns_and_keys(self):
        for examples, rng in many_examples(80, 1, most_values=3, most_cases=3, most_places=3):
            for places in lots_of_places(examples, rng, 81):
                self.assertEqual(columns_of(examples, places), right_columns(examples, places))
                for language in ("flat one plain", "flat many not", "deep one unlike", "deep many plain"):
                    right = tuple(right_keys(examples, language, places))
                    if len(right) <= 9:
                        self.assertEqual(keys_of(examples, language, places), right)

    def test_all_keys_and_the_columns(self):
        self.assertEqual(keys_of(ENDS, "deep one plain", ENDS.places), tuple((x, y) for x in "abc" for y in "abc"))
        self.assertEqual(keys_of(REST, "flat one plain", REST.places), (("a", "b", "b"), ("b", "a", "b")))
        self.assertEqual(columns_of(REST, REST.places), (("a", "b", "b"), ("b", "a", "b")))
        self.assertEqual(columns_of(REST, REST.places[1:]), (("b", "b"), ("a", "b")))
        self.assertEqual(keys_of(REST, "flat many not", (REST.places[2],)), (("b",),))

    def test_without_places_and_columns(self):
        self.assertEqual([columns_of(REST, ()), columns_of(Examples(0, (POINT, ((),), ())), ())], [((), ()), ()])
        self.assertEqual([keys_of(REST, "deep one plain", ()), keys_of(REST, "flat one plain", ())], [((),), ((),)])
        bare = Examples(0, (POINT, ((),), ()), (POINT, ((),), ()))
        self.assertEqual(columns_of(bare, bare.places), ())
        self.assertEqual([keys_of(bare, "flat many not", places) for places in ((), bare.places)], [(), ()])
        self.assertEqual(keys_of(bare, "deep many not", bare.places), tuple((x, y) for x in "ab" for y in "ab"))

    def test_only_the_first_and_the_last_word_count(self):
        for examples, rng in many_examples(20, 2):
            for places in lots_of_places(examples, rng):
                for one, many in zip(LANGUAGES[:3] + LANGUAGES[6:9], LANGUAGES[3:6] + LANGUAGES[9:]):
                    self.assertEqual(keys_of(examples, one, places), keys_of(examples, many, places))
                    self.assertEqual(rule_of(examples, one, places), rule_of(examples, many, places))

    def test_errors(self):
        places = (ENDS.places, wrong_places(ENDS))
        check_errors(self, columns_of, [(ENDS, WRONG_EXAMPLES), places])
        check_errors(self, keys_of, [(ENDS, WRONG_EXAMPLES), ("deep one not", WRONG), places])
        for value, error in wrong_places(BEGIN):
            check_error(self, error, columns_of, BEGIN, value)

    def test_bound(self):
        for examples in JUST_REACHED:
            for language in LANGUAGES:
                self.assertEqual(keys_of(examples, language, examples.places), tuple(right_keys(examples, language, examples.places)))
        for examples in JUST_BEYOND:
            for language in LANGUAGES:
                if language.startswith("flat"):
                    right = tuple(right_keys(examples, language, examples.places))
                    self.assertEqual(keys_of(examples, language, examples.places), right)
                else:
                    check_error(self, TooMany(65536), keys_of, examples, language, examples.places)
                    check_error(self, InvalidOperation, keys_of, examples, language, examples.places[::-1])
                    self.assertEqual(len(keys_of(examples, language, examples.places[:1])), len(whole_keys(examples, examples.places[:1])))
            self.assertEqual(columns_of(examples, examples.places), right_columns(examples, examples.places))


class KeyRowsTest(unittest.TestCase):
    def test_all_tuples_of_keys(self):
        for examples, rng in many_examples(60, 3, most_values=3, most_cases=3, most_places=3):
            for places in lots_of_places(examples, rng):
                for language in ("flat many plain", "flat one not", "deep one not", "deep many unlike"):
                    keys = right_keys(examples, language, places)
                    for sign in signs_in(examples.shape, language):
                        right = right_key_rows(examples, language, places, sign)
                        self.assertEqual(list(key_rows(examples, language, places, sign)), right)
                        width = sign_width(examples.shape, sign)
                        others = list(itertools.product(keys, repeat=width))
                        for value in rng.sample(others, min(len(others), 20)):
                            self.assertIs(is_key_row(examples, language, places, sign, value), value in right)

    def test_rows_make_key_rows(self):
        # One row of the sign at each place: each such choice makes another key row, and these are all.
        for examples, rng in many_examples(60, 4, most_values=3, most_cases=2, most_places=2):
            for places in lots_of_places(examples, rng):
                for sign in signs_in(examples.shape, "deep one not"):
                    choices = [sign_rows(examples.cases[index][0], sign) for index, _ in places]
                    width = sign_width(examples.shape, sign)
                    made = [tuple(tuple(row[at] for row in told) for at in range(width)) for told in itertools.product(*choices)]
                    self.assertEqual(len(made), len(set(made)))
                    self.assertEqual(list(key_rows(examples, "deep one not", places, sign)), sorted(made))

    def test_signs_without_columns_and_without_rows(self):
        full, void = Database(("a",), t=Table(0, ())), Database(("a",), t=Table(0))
        both = Examples(1, (full, (("a",),), ()), (void, (("a",),), ()))
        for language in ("flat one not", "deep one not"):
            for places, has_in, has_out in (
                ((), True, True), (both.places[:1], True, False), (both.places[1:], False, True), (both.places, False, False),
            ):
                self.assertEqual(list(key_rows(both, language, places, ("in", "t"))), [()] if has_in else [])
                self.assertEqual(list(key_rows(both, language, places, ("out", "t"))), [()] if has_out else [])
                self.assertIs(is_key_row(both, language, places, ("in", "t"), ()), has_in)
                self.assertIs(is_key_row(both, language, places, ("out", "t"), ()), has_out)
            self.assertEqual(list(key_rows(both, language, both.places, ("unlike",))), [])
            self.assertEqual(list(key_rows(both, language, (), ("unlike",))), [((), ())])

    def test_a_sign_without_rows_at_one_place(self):
        two = Database(("a", "b"), to=Table(2))
        told = Examples(1, (THERE, (("a",),), ()), (two, (("a",),), ()))
        self.assertEqual(list(key_rows(told, "deep one not", told.places, ("in", "to"))), [])
        self.assertEqual(list(key_rows(told, "deep one not", told.places[:1], ("in", "to"))), [(("a",), ("b",))])
        self.assertEqual(len(list(key_rows(told, "deep one not", told.places, ("out", "to")))), 12)

    def test_flat_key_rows_are_over_the_columns_alone(self):
        self.assertEqual(list(key_rows(ENDS, "flat one not", ENDS.places, ("in", "edge"))), [])
        self.assertIs(is_key_row(ENDS, "flat one not", ENDS.places, ("in", "edge"), (("a", "b"), ("b", "c"))), False)
        self.assertIs(is_key_row(ENDS, "deep one not", ENDS.places, ("in", "edge"), (("a", "b"), ("b", "c"))), True)

    def test_judge_refuses(self):
        wrong = [
            [("a", "b"), ("b", "c")], (["a", "b"], ["b", "c"]), (("a", "b"),), (("a", "b"), ("b", "c"), ("a", "b")), ("ab", "bc"),
            (("a", "b", "c"), ("b", "c", "b")), (("a",), ("b",)), (("a", "z"), ("b", "c")), (("a", "b"), ("a", "c")), ((), ()), (),
            (("a", ["b"]), ("b", "c")), (("a", None), ("b", "c")), (("a", "b"), ("b", "c"), None), (("a", "b"), None),
            {("a", "b"): ("b", "c")}, (("a", 1), ("b", "c")),
        ]
        for value in wrong + EVERY_KIND:
            for language in ("deep one not", "flat one not"):
                self.assertIs(is_key_row(ENDS, language, ENDS.places, ("in", "edge"), value), False, show(value))
        for value in EVERY_KIND:
            right = isinstance(value, tuple) and len(value) == 2 and all(part in [("a", "c")] for part in value)
            self.assertIs(is_key_row(ENDS, "flat many not", ENDS.places, ("out", "edge"), value), right, show(value))
            right = isinstance(value, tuple) and len(value) == 2 and all(part == () for part in value)
            self.assertIs(is_key_row(ENDS, "flat many not", (), ("out", "edge"), value), right, show(value))

    def test_it_is_a_generator(self):
        told = key_rows(ENDS, "deep one plain", ENDS.places, ("in", "edge"))
        self.assertTrue(inspect.isgenerator(told))
        self.assertEqual(next(told), (("a", "a"), ("b", "b")))
        self.assertEqual(len(list(told)), 15)
        self.assertEqual(len(list(key_rows(ENDS, "deep one plain", ENDS.places, ("in", "edge")))), 16)
        waiting = key_rows(1, 2, 3, 4)
        with self.assertRaises(InvalidExamples):
            next(waiting)

    def test_errors(self):
        for language in ("deep one not", "flat many plain"):
            parameters = [
                (ENDS, WRONG_EXAMPLES), (language, WRONG), (ENDS.places, wrong_places(ENDS)),
                (("in", "edge"), wrong_signs(ENDS, language)),
            ]
            check_errors(self, key_rows, parameters)
            check_errors(self, lambda *four: is_key_row(*four, ()), parameters)
        for language in LANGUAGES:
            for sign in (("in", "edge"), ("out", "edge"), ("unlike",)):
                if sign in signs_in(ENDS.shape, language):
                    self.assertIs(is_key_row(ENDS, language, ENDS.places, sign, ()), False)
                    self.assertIsInstance(list(key_rows(ENDS, language, ENDS.places, sign)), list)
                else:
                    check_error(self, InvalidOperation, key_rows, ENDS, language, ENDS.places, sign)
                    check_error(self, InvalidOperation, is_key_row, ENDS, language, ENDS.places, sign, ())

    def test_bound(self):
        for examples in JUST_REACHED + JUST_BEYOND:
            places = examples.places
            first = tuple(case[0].domain[0] for case in [examples.cases[index] for index, _ in places])
            last = tuple(case[0].domain[-1] for case in [examples.cases[index] for index, _ in places])
            for language in ("deep one unlike", "deep many not"):
                if examples in JUST_BEYOND:
                    check_error(self, TooMany(65536), key_rows, examples, language, places, ("unlike",))
                    check_error(self, InvalidOperation, key_rows, examples, language, places, ("in", "t"))
                else:
                    told = list(key_rows(examples, language, places, ("unlike",)))
                    many = 1
                    for index, _ in places:
                        values = len(examples.cases[index][0].domain)
                        many *= values * (values - 1)
                    self.assertEqual(len(told), many)
                right = all(one != other for one, other in zip(first, last))
                self.assertIs(is_key_row(examples, language, places, ("unlike",), (first, last)), right)
                self.assertIs(is_key_row(examples, language, places, ("unlike",), (first, first)), not places)
            right = right_key_rows(examples, "flat one unlike", places, ("unlike",))
            self.assertEqual(list(key_rows(examples, "flat one unlike", places, ("unlike",))), right)


class RuleTest(unittest.TestCase):
    def check(self, examples, language, places):
        """The rule has just the variables and atoms of [7.2]."""
        rule, mapping = rule_of(examples, language, places)
        self.assertEqual(tuple(mapping), rule.variables)
        self.assertEqual(len(set(mapping.values())), len(mapping))
        columns = right_columns(examples, places)
        self.assertEqual(tuple(mapping[name] for name in rule.head), columns)
        atoms, used = set(), set(columns)
        for sign in signs_in(examples.shape, language):
            for keys in right_key_rows(examples, language, places, sign):
                used |= set(keys)
                atoms.add(("unlike", frozenset(keys)) if sign == ("unlike",) else (*sign, keys))
        told = set()
        for atom in rule.atoms:
            names = atom[1:] if atom[0] == "unlike" else atom[2]
            keys = tuple(mapping[name] for name in names)
            told.add(("unlike", frozenset(keys)) if atom[0] == "unlike" else (*atom[:2], keys))
        self.assertEqual(told, atoms)
        self.assertEqual((len(rule), set(mapping.values())), (len(atoms), used))
        return rule

    def test_variables_and_atoms(self):
        for examples, rng in many_examples(60, 5, most_values=3, most_cases=2, most_places=2):
            for places in lots_of_places(examples, rng):
                for language in ("flat one plain", "flat many not", "deep one unlike", "deep many not", "deep one plain"):
                    rule = self.check(examples, language, places)
                    if language.startswith("flat"):
                        self.assertEqual(rule.hidden, ())

    def test_answers_are_the_thrown_rows(self):
        for examples, _ in many_examples(80, 6):
            for language in ("flat one plain", "flat one not", "deep one plain", "deep one unlike", "deep one not"):
                places = examples.places
                if len(right_keys(examples, language, places)) <= 4:
                    rule, _ = rule_of(examples, language, places)
                    for target, (database, _, _) in enumerate(examples.cases):
                        right = right_thrown(examples, language, places, target)
                        self.assertEqual(answers(Query(examples.columns, rule), database).rows, tuple(right))

    def test_rows_of_the_places_are_answers(self):
        for examples, rng in many_examples(60, 7, most_values=3, most_cases=3, most_places=3):
            for places in lots_of_places(examples, rng):
                for language in ("flat many not", "deep one not"):
                    query = Query(examples.columns, rule_of(examples, language, places)[0])
                    for index, row in places:
                        self.assertIn(row, answers(query, examples.cases[index][0]))

    def test_variables_that_stand_in_no_key_row(self):
        rule, mapping = rule_of(Examples(1, (Database(("a", "b", "c")), (("b",),), ())), "deep one plain", ((0, ("b",)),))
        self.assertEqual((rule.atoms, list(mapping.values())), ((), [("b",)]))
        rule, mapping = rule_of(Examples(0, (Database(("a", "b", "c")), ((),), ())), "deep many plain", ((0, ()),))
        self.assertEqual((rule.head, rule.atoms, mapping), ((), (), {}))
        rule, mapping = rule_of(Examples(1, (THERE.with_value("c"), (("a",),), ())), "deep one plain", ((0, ("a",)),))
        self.assertEqual((len(rule), sorted(mapping.values())), (1, [("a",), ("b",)]))

    def test_without_places(self):
        for language in LANGUAGES:
            rule = self.check(REST, language, ())
            self.assertEqual((len(set(rule.head)), len(rule.head)), (1, 2))
            words = {atom[0] for atom in rule}
            self.assertEqual(len(rule), {"plain": 1, "unlike": 2, "not": 3}[language.split(" ")[2]])
            self.assertEqual(len(words), len(rule))

    def test_the_greatest_rule(self):
        rng = random.Random(8)
        tables = {name: Table(3, *[row for row in all_rows("ab", 3) if rng.random() < 0.2]) for name in "pqrs"}
        database = Database.of(("a", "b"), tables)
        examples = Examples(2, (database, tuple(all_rows("ab", 2)), ()))
        rule, mapping = rule_of(examples, "deep one not", examples.places)
        many = 8
        for table in tables.values():
            many += len(table) ** 4 + (8 - len(table)) ** 4
        self.assertEqual((len(rule), len(mapping)), (many, 16))
        full = Examples(2, (Database(("a", "b"), p=whole_table(("a", "b"), 3)), tuple(all_rows("ab", 2)), ()))
        self.assertEqual(len(rule_of(full, "deep many not", full.places)[0]), 4096 + 8)

    def test_errors(self):
        parameters = [(ENDS, WRONG_EXAMPLES), ("deep one not", WRONG), (ENDS.places, wrong_places(ENDS))]
        check_errors(self, rule_of, parameters)

    def test_bound(self):
        for examples in JUST_REACHED:
            for language in ("deep one plain", "flat many not"):
                self.check(examples, language, examples.places)
        for examples in JUST_BEYOND:
            check_error(self, TooMany(65536), rule_of, examples, "deep many plain", examples.places)
            check_error(self, TooMany(65536), rule_of, examples, "deep one not", examples.places)
            self.assertEqual(len(rule_of(examples, "flat one plain", examples.places)[1]), len(set(right_columns(examples, examples.places))))

    def test_what_is_returned_can_be_changed(self):
        before = copy_of(rule_of(REST, "flat one not", REST.places))
        rule_of(REST, "flat one not", REST.places)[1].clear()
        self.assertTrue(same(rule_of(REST, "flat one not", REST.places), before))


if __name__ == "__main__":
    unittest.main()
