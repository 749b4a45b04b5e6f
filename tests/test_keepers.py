"""Keepers: [0.1] to [0.6], [0.14], [0.17], [0.20], [0.21], [8.1], [8.2], stage 8."""

import inspect
import itertools
import random
import unittest

from askable.ask.answers import answers
from askable.ask.languages import LANGUAGES
from askable.ask.rules import Query
from askable.base.databases import Database
from askable.base.tables import Table
from askable.errors import InvalidNumber, InvalidOperation, TooMany
from askable.keep.keepers import done_behind, is_keeper, keeper, kept_maps, thrown_row, thrown_rows
from askable.keep.maps import maps
from askable.keep.places import keys_of, rule_of
from askable.wish.examples import Examples
from oracles import (
    dicts_from, has_keeper, is_like_keeper, is_right_keeper, is_right_mapping, many_examples, places_of_keepers, right_columns,
    right_keys, right_kept_maps, right_places, right_thrown, thrown_by, whole_keys,
)
from support import (
    BACK, BEGIN, EITHER, ENDS, EVERY_KIND, NOWHERE, PATH, POINT, REST, THERE, TURN, all_rows, all_wrong, all_wrong_kept,
    check_error, check_errors, copy_of, is_right_number, same, show,
)
from test_examples import WRONG_EXAMPLES, state_of
from test_languages import WRONG
from test_places import JUST_BEYOND, JUST_REACHED, wrong_places
from test_trees import changed, exchanged

SOME_LANGUAGES = ("flat one plain", "flat many unlike", "flat one not", "deep one plain", "deep one unlike", "deep many not")


def wrong_targets(examples):
    return all_wrong_kept(InvalidNumber, lambda value: is_right_number(value, len(examples.cases) - 1))


def few_keys(examples, language, most=4):
    """Whether the keys of keepers are so few that all dicts can be tried."""
    return all(len(right_keys(examples, language, places)) <= most for places in places_of_keepers(examples, language))


def changed_keepers(value):
    """Values like a keeper with one part exchanged, left out or put in."""
    word, places, target, mapping = value
    for part in ("query", None, True, 0):
        yield part, places, target, mapping
    for part in (target + 1, target - 1, bool(target), None, str(target)):
        yield word, places, part, mapping
    for part in list(changed(places)) + [told for leaf in (0, 1, True, "a", "b", ("a",), None) for told in exchanged(places, leaf)]:
        yield word, part, target, mapping
    for part in (None, tuple(mapping.items()), list(mapping.items()), {**mapping, ("z",): "a"}, {**mapping, 1: "a"}, {}, [mapping]):
        yield word, places, target, part
    for key in mapping:
        yield word, places, target, {other: mapping[other] for other in mapping if other != key}
        for told in ("a", "b", "c", "z", None, ["a"], ("a",), 1):
            yield word, places, target, {**mapping, key: told}
    yield value[:3]
    yield value + (1,)
    yield list(value)


class KeptMapsTest(unittest.TestCase):
    def test_all_dicts(self):
        for examples, _ in many_examples(120, 1, most_cases=3):
            for language in SOME_LANGUAGES:
                if few_keys(examples, language):
                    for places in places_of_keepers(examples, language):
                        for target, (database, _, _) in enumerate(examples.cases):
                            right = right_kept_maps(examples, language, places, target)
                            told = list(kept_maps(examples, language, places, target))
                            self.assertEqual(told, right)
                            self.assertTrue(all(list(one) == right_keys(examples, language, places) for one in told))
                            rows = right_thrown(examples, language, places, target)
                            thrown = thrown_rows(examples, language, places, target)
                            self.assertEqual((thrown.columns, thrown.rows), (examples.columns, tuple(rows)))
                            rule, _ = rule_of(examples, language, places)
                            self.assertEqual(answers(Query(examples.columns, rule), database), thrown)

    def test_three_values(self):
        for examples, _ in many_examples(40, 2, most_values=3, most_cases=2, most_places=1):
            for language in LANGUAGES:
                if few_keys(examples, language, 3):
                    for places in places_of_keepers(examples, language):
                        for target in range(len(examples)):
                            right = right_kept_maps(examples, language, places, target)
                            self.assertEqual(list(kept_maps(examples, language, places, target)), right)

    def test_the_greatest_number_of_maps(self):
        bare = Examples(2, (Database(("a", "b")), tuple(all_rows("ab", 2)), ()))
        many = 0
        for told in kept_maps(bare, "deep one plain", bare.places, 0):
            many += 1
            if many == 1:
                self.assertEqual(told, {key: "a" for key in whole_keys(bare, bare.places)})
        self.assertEqual(many, 65536)
        self.assertEqual(len(list(kept_maps(bare, "deep one unlike", bare.places, 0))), 256)

    def test_without_places_and_columns(self):
        rest = Examples(2, (POINT, (), None))
        self.assertEqual(list(kept_maps(rest, "deep one plain", (), 0)), [{(): "a"}])
        self.assertEqual(list(kept_maps(rest, "flat one plain", (), 0)), [{(): "a"}])
        self.assertEqual(list(kept_maps(rest, "flat one unlike", (), 0)), [])
        self.assertEqual(thrown_rows(rest, "deep one plain", (), 0).rows, (("a", "a"),))
        bare = Examples(0, (POINT, ((),), ()))
        self.assertEqual(list(kept_maps(bare, "flat one not", bare.places, 0)), [{}])
        self.assertEqual(thrown_rows(bare, "flat one not", bare.places, 0), Table(0, ()))
        full, void = Database(("a",), t=Table(0, ())), Database(("a",), t=Table(0))
        both = Examples(0, (full, ((),), ()), (void, (), ()))
        self.assertEqual([list(kept_maps(both, "flat one plain", both.places, at)) for at in (0, 1)], [[{}], []])
        self.assertEqual([list(kept_maps(both, "flat one not", both.places, at)) for at in (0, 1)], [[{}], []])
        self.assertEqual([list(kept_maps(both.turned(), "flat one not", (), at)) for at in (0, 1)], [[], []])

    def test_it_is_a_generator(self):
        told = kept_maps(REST, "deep one unlike", REST.places, 0)
        self.assertTrue(inspect.isgenerator(told))
        next(told).clear()
        self.assertEqual(len(list(told)), 7)
        self.assertEqual(len(list(kept_maps(REST, "deep one unlike", REST.places, 0))), 8)
        waiting = kept_maps(REST, "deep one unlike", REST.places, 1)
        with self.assertRaises(InvalidNumber):
            next(waiting)

    def test_errors(self):
        for call in (kept_maps, thrown_rows):
            for language, places in (("deep one not", BEGIN.places), ("flat many plain", BEGIN.places)):
                told = all_wrong(InvalidOperation, lambda value: isinstance(value, tuple) and value == BEGIN.places)
                told = [pair for pair in told if not isinstance(pair[0], tuple) or pair[0] != BEGIN.places]
                parameters = [(BEGIN, WRONG_EXAMPLES), (language, WRONG), (places, told + wrong_places(BEGIN))]
                check_errors(self, call, parameters + [(1, wrong_targets(BEGIN))])

    def test_errors_of_places(self):
        first, second, third = REST.places
        for call in (kept_maps, thrown_rows):
            for language in LANGUAGES:
                for many in range(4):
                    for places in itertools.product(REST.places, repeat=many):
                        if places in places_of_keepers(REST, language):
                            list(call(REST, language, places, 0))
                        else:
                            check_error(self, InvalidOperation, call, REST, language, places, 0)
                            check_error(self, InvalidOperation, call, REST, language, places, 7)
            none = Examples(1, (POINT, (), ()))
            check_error(self, InvalidOperation, call, none, "flat many plain", (), 0)
            check_error(self, InvalidOperation, call, none, "flat one plain", ((0, ("a",)),), 0)

    def test_bound(self):
        for examples in JUST_BEYOND:
            places = examples.places
            for language in ("deep one plain", "deep one unlike", "deep one not"):
                for call in (kept_maps, thrown_rows):
                    check_error(self, TooMany(65536), call, examples, language, places, 0)
                    check_error(self, InvalidNumber(9), call, examples, language, places, 9)
                    check_error(self, InvalidOperation, call, examples, language, places[1:], 0)
            for language in ("flat one not", "deep many unlike", "flat many plain"):
                self.assertIsNotNone(next(kept_maps(examples, language, places_of_keepers(examples, language)[0], 0), 1))
        for examples in JUST_REACHED:
            for language in ("deep one unlike", "deep one plain"):
                told = next(kept_maps(examples, language, examples.places, 0), None)
                if told is not None:
                    self.assertEqual(list(told), whole_keys(examples, examples.places))


class KeeperTest(unittest.TestCase):
    def test_one_exists_exactly_if_all_dicts_have_one(self):
        found = {True: 0, False: 0}
        for examples, _ in many_examples(150, 3, most_cases=3):
            for language in LANGUAGES:
                if few_keys(examples, language):
                    told = keeper(examples, language)
                    right = has_keeper(examples, language)
                    found[right] += 1
                    self.assertIs(told is not None, right, (state_of(examples), language))
                    if right:
                        self.assertTrue(is_right_keeper(examples, language, told))
                        self.assertIs(is_keeper(examples, language, told), True)
                        self.assertEqual(list(told[3]), sorted(told[3]))
        self.assertGreater(min(found.values()), 300)

    def test_many_keys(self):
        for examples, _ in many_examples(60, 4, most_values=3, most_cases=3, most_places=4):
            for language in LANGUAGES:
                if few_keys(examples, language, 8):
                    told = keeper(examples, language)
                    self.assertIs(told is None or is_right_keeper(examples, language, told), True)
                    self.assertIs(is_keeper(examples, language, told), told is not None)

    def test_all_dicts_are_judged(self):
        for examples, _ in many_examples(40, 5, most_cases=2):
            for language in SOME_LANGUAGES:
                if few_keys(examples, language):
                    for places in places_of_keepers(examples, language):
                        for target, (database, _, _) in enumerate(examples.cases):
                            for mapping in dicts_from(right_keys(examples, language, places), database.domain):
                                value = ("keeper", places, target, mapping)
                                self.assertIs(is_keeper(examples, language, value), is_right_keeper(examples, language, value))

    def test_changed_keepers(self):
        judged = {True: 0, False: 0}
        for examples, _ in many_examples(60, 6, most_cases=2):
            for language in LANGUAGES:
                told = keeper(examples, language) if few_keys(examples, language) else None
                if told is not None:
                    for value in changed_keepers(told):
                        right = is_right_keeper(examples, language, value)
                        judged[right] += 1
                        self.assertIs(is_keeper(examples, language, value), right, show(value))
        self.assertGreater(min(judged.values()), 100)

    def test_without_places(self):
        none = Examples(2, (POINT, (), None), (POINT, (), ()))
        self.assertEqual(keeper(none, "deep one plain"), ("keeper", (), 0, {(): "a"}))
        self.assertEqual(keeper(none, "flat one plain"), ("keeper", (), 0, {(): "a"}))
        for language in LANGUAGES:
            if language not in ("deep one plain", "flat one plain"):
                self.assertIsNone(keeper(none, language))
                self.assertIs(is_keeper(none, language, ("keeper", (), 0, {(): "a"})), False)
        self.assertIs(is_keeper(none, "deep one plain", ("keeper", (), 1, {(): "a"})), False)
        bare = Examples(0, (POINT, (), None))
        self.assertEqual(keeper(bare, "flat one not"), ("keeper", (), 0, {}))
        self.assertIs(is_keeper(bare, "flat one unlike", ("keeper", (), 0, {})), True)
        self.assertIs(is_keeper(bare, "deep one unlike", ("keeper", (), 0, {})), False)
        self.assertIsNone(keeper(bare, "deep one unlike"))
        self.assertIsNotNone(keeper(bare, "deep one plain"))

    def test_without_columns(self):
        full, void = Database(("a", "b"), t=Table(0, ())), Database(("a", "b"), t=Table(0))
        told = Examples(0, (full, ((),), ()), (void, (), ((),)))
        self.assertEqual([keeper(told, language) for language in LANGUAGES], [None] * 12)
        told = Examples(0, (void, ((),), ()), (full, (), ((),)))
        right = {"plain": True, "unlike": True, "not": False}
        for language in LANGUAGES:
            self.assertIs(keeper(told, language) is not None, right[language.split(" ")[2]])

    def test_rows_that_must_and_are_barred(self):
        both = Examples(1, (PATH, (("b",),), (("b",),)))
        for language in LANGUAGES:
            self.assertTrue(is_right_keeper(both, language, keeper(both, language)))

    def test_without_barred_rows(self):
        for language in LANGUAGES:
            self.assertIsNone(keeper(Examples(1, (PATH, (("b",),), ())), language))

    def test_keys_in_any_order(self):
        value = TURN[:3] + ({("c",): "b", ("b",): "a", ("a",): "b"},)
        self.assertIs(is_keeper(ENDS, "deep many plain", value), True)

    def test_it_refuses(self):
        for language in LANGUAGES:
            for value in EVERY_KIND:
                self.assertIs(is_keeper(ENDS, language, value), is_right_keeper(ENDS, language, value), show(value))
            self.assertIs(is_keeper(REST, language, TURN), False)
        for value in changed_keepers(TURN):
            self.assertIs(is_keeper(ENDS, "deep many plain", value), is_right_keeper(ENDS, "deep many plain", value))

    def test_errors(self):
        language = ("deep one not", WRONG)
        check_errors(self, keeper, [(ENDS, WRONG_EXAMPLES), language])
        check_errors(self, lambda *two: is_keeper(*two, TURN), [(ENDS, WRONG_EXAMPLES), language])

    def test_bound(self):
        for examples in JUST_BEYOND:
            for language in LANGUAGES:
                if language.startswith("deep one"):
                    check_error(self, TooMany(65536), keeper, examples, language)
                else:
                    self.assertIsNone(keeper(examples, language))
                self.assertIs(is_keeper(examples, language, None), False)
        for examples in JUST_REACHED:
            for language in LANGUAGES:
                self.assertIsNone(keeper(examples, language))
        none = Examples(3, (Database(("a", "b", "c")), tuple(all_rows("abc", 3)), None))
        check_error(self, TooMany(65536), keeper, none, "deep one plain")

    def test_one_keeper_for_all_languages_of_many_places(self):
        database = Database(tuple("abcdef"), t=Table(1))
        rows = tuple(all_rows("abcdef", 3))
        told = Examples(3, *[(database, rows, rows[:1])] * 4)
        for language in LANGUAGES:
            if not language.startswith("deep one"):
                self.assertTrue(is_keeper(told, language, keeper(told, language)))

    def test_the_judge_has_no_bound(self):
        rng = random.Random(7)
        for values, many, shape in ((2, 5, {"t": 3}), (2, 6, {"t": 2, "u": 0}), (3, 3, {"t": 3, "u": 1}), (4, 3, {"t": 2}), (6, 2, {"t": 3})):
            domain = tuple("abcdef"[:values])
            for _ in range(4):
                tables = {name: Table(columns, *rng.sample(all_rows(domain, columns), (values ** columns + 1) // 2))
                          for name, columns in shape.items()}
                database = Database.of(domain, tables)
                rows = tuple(all_rows(domain, 3)[1:many + 1])
                told = Examples(3, (database, rows, rows[1:2]), (database, (), ()))
                at = rng.randrange(many)
                value = ("keeper", told.places, 0, {key: key[1] for key in whole_keys(told, told.places)})
                check_error(self, TooMany(65536), keeper, told, "deep one not")
                for language in ("deep one not", "deep one plain"):
                    self.assertIs(is_keeper(told, language, value), True)
                    for other in range(2):
                        self.assertIs(is_keeper(told, language, value[:2] + (other, value[3])), other == 0)
                    less = dict(value[3])
                    less.popitem()
                    self.assertIs(is_keeper(told, language, value[:3] + (less,)), False)
                    for _ in range(6):
                        key = rng.choice(sorted(value[3]))
                        other = value[:3] + ({**value[3], key: rng.choice(domain)},)
                        if values * many < 12:
                            self.assertIs(is_keeper(told, language, other), is_right_keeper(told, language, other), (language, at))

    def test_very_many_keys(self):
        database = Database(tuple("abcdef"))
        rows = tuple(all_rows("abcdef", 3))
        told = Examples(3, *[(database, rows, rows)] * 4)
        columns = dict.fromkeys(right_columns(told, right_places(told)), "a")
        self.assertIs(is_keeper(told, "deep one plain", ("keeper", told.places, 0, columns)), False)
        self.assertIs(is_keeper(told, "flat one plain", ("keeper", told.places, 0, columns)), True)


class LikeKeeperTest(unittest.TestCase):
    def test_thrown_row(self):
        for examples, rng in many_examples(80, 8, most_values=3, most_cases=2):
            places = tuple(place for place in examples.places if rng.random() < 0.7)
            keys = set(right_columns(examples, places)) | set(key for key in whole_keys(examples, places) if rng.random() < 0.4)
            for target, (database, _, _) in enumerate(examples.cases):
                mapping = {key: rng.choice(database.domain) for key in sorted(keys, reverse=True)}
                value = ("keeper", places, target, mapping)
                self.assertEqual(thrown_row(examples, value), thrown_by(examples, places, mapping))
                for other in changed_keepers(value):
                    if is_like_keeper(examples, other):
                        self.assertEqual(thrown_row(examples, other), thrown_by(examples, other[1], other[3]))
                    else:
                        check_error(self, InvalidOperation, thrown_row, examples, other)

    def test_done_behind(self):
        for examples, rng in many_examples(80, 9, most_values=3, most_cases=3):
            places = examples.places
            for target, (database, _, _) in enumerate(examples.cases):
                keys = right_keys(examples, "deep one plain", places)
                mapping = {key: rng.choice(database.domain) for key in keys[::-1]}
                value = ("keeper", places, target, mapping)
                before = copy_of(value)
                for other, (second, _, _) in enumerate(examples.cases):
                    more = {told: rng.choice(second.domain) for told in database.domain}
                    right = ("keeper", places, other, {key: more[mapping[key]] for key in mapping})
                    told = done_behind(examples, value, other, more)
                    self.assertEqual(told, right)
                    self.assertEqual(list(told[3]), keys)
                    told[3].clear()
                    self.assertTrue(same(value, before))

    def test_maps_behind_keepers(self):
        # [8.2], and what is done behind a keeper is a keeper if it throws to a barred row.
        tried = 0
        for examples, _ in many_examples(80, 10, most_cases=3):
            for language in SOME_LANGUAGES:
                told = keeper(examples, language) if few_keys(examples, language) else None
                if told is None:
                    continue
                first = examples.cases[told[2]][0]
                for target, (database, _, barred) in enumerate(examples.cases):
                    for mapping in list(maps(first, database, language)):
                        other = done_behind(examples, told, target, mapping)
                        row = tuple(mapping[value] for value in thrown_row(examples, told))
                        self.assertEqual(thrown_row(examples, other), row)
                        self.assertIs(is_keeper(examples, language, other), row in barred)
                        tried += 1
        self.assertGreater(tried, 500)

    def test_it_need_not_be_a_keeper(self):
        self.assertEqual(thrown_row(ENDS, ("keeper", (), 0, {(): "c"})), ("c",))
        self.assertEqual(thrown_row(ENDS, ("keeper", ENDS.places, 0, {("a", "c"): "a"})), ("a",))
        self.assertEqual(thrown_row(REST, ("keeper", REST.places[:2], 0, {("a", "b"): "b", ("b", "a"): "a"})), ("b", "a"))
        self.assertEqual(done_behind(BEGIN, ("keeper", (), 0, {(): "a"}), 1, {"b": "a", "a": "b"}), ("keeper", (), 1, {(): "b"}))

    def test_errors(self):
        wrong = all_wrong(InvalidOperation, lambda value: is_like_keeper(ENDS, value))
        wrong += [(value, InvalidOperation) for value in changed_keepers(TURN) if not is_like_keeper(ENDS, value)]
        check_errors(self, thrown_row, [(ENDS, WRONG_EXAMPLES), (TURN, wrong)])
        mapping = all_wrong(InvalidOperation, lambda value: is_right_mapping(value, "abc", "abc"))
        mapping += [(value, InvalidOperation) for value in (
            {"a": "a", "b": "b"}, {"a": "a", "b": "b", "c": "d"}, {"a": "a", "b": "b", "c": "c", "d": "a"}, {"a": "a", "b": "b", "d": "c"},
            {"a": "a", "b": "b", "c": None},
        )]
        target = (0, wrong_targets(ENDS))
        check_errors(self, done_behind, [(ENDS, WRONG_EXAMPLES), (TURN, wrong), target, ({"a": "a", "b": "a", "c": "b"}, mapping)])

    def test_errors_of_maps_behind(self):
        two = Examples(1, (PATH, (("a",),), ()), (PATH.with_value("d"), (), ()))
        value = ("keeper", two.places, 0, {("a",): "a"})
        whole = {"a": "a", "b": "b", "c": "d"}
        self.assertEqual(done_behind(two, value, 1, whole)[2:], (1, {("a",): "a"}))
        check_error(self, InvalidOperation, done_behind, two, value, 0, whole)
        check_error(self, InvalidOperation, done_behind, two, value, 1, {**whole, "d": "d"})
        check_error(self, InvalidOperation, done_behind, two, done_behind(two, value, 1, whole), 0, whole)
        check_error(self, InvalidNumber(2), done_behind, two, value, 2, whole)


class StateTest(unittest.TestCase):
    def test_nothing_changes(self):
        for examples in (ENDS, REST, BEGIN, EITHER):
            before = state_of(examples)
            for language in LANGUAGES:
                told = keeper(examples, language)
                if told is not None:
                    kept = copy_of(told)
                    is_keeper(examples, language, told)
                    self.assertTrue(same(told, kept))
                    told[3].clear()
                    self.assertTrue(same(keeper(examples, language), kept))
            self.assertEqual(state_of(examples), before)

    def test_keepers_stop_all_queries_of_the_language(self):
        for language in LANGUAGES:
            if keeper(REST, language) is not None:
                self.assertFalse(NOWHERE.is_in(language))

    def test_the_document_says(self):
        self.assertEqual([keeper(BEGIN, language) is None for language in LANGUAGES if language.startswith("deep")],
                         [False, False, True, False, False, True])
        self.assertEqual(len(keys_of(BEGIN, "deep one not", BEGIN.places)), 2)
        self.assertEqual(thrown_rows(BEGIN, "deep one not", BEGIN.places, 1), Table(1))
        self.assertEqual(thrown_rows(BEGIN, "deep one unlike", BEGIN.places, 1).rows, (("a",), ("b",)))
        self.assertEqual([BACK["to"].rows, THERE["to"].rows], [(("a", "b"), ("b", "a")), (("a", "b"),)])


if __name__ == "__main__":
    unittest.main()
