"""Papers: [0.1] to [0.6], [0.16] to [0.18], [0.20], [0.21], [10.1], stage 10."""

import itertools
import random
import unittest

from askable.ask.languages import LANGUAGES
from askable.ask.rules import Query, Rule
from askable.base.databases import Database
from askable.base.tables import Table, whole_table
from askable.errors import InvalidOperation, InvalidQuery, NoQuery, TooMany, UnknownName
from askable.keep.keepers import is_keeper, keeper
from askable.wish.examples import Examples
from askable.wish.papers import fitting_paper, is_askable, is_fitting_paper, is_paper, paper, query_for, query_of
from oracles import (
    database_of, has_keeper, is_query_of, is_right_fitting_paper, is_right_keeper, is_right_paper, many_examples, right_misfits,
    right_places,
)
from support import (
    BACK, BEGIN, EITHER, ENDS, EVERY_KIND, NOWHERE, PATH, POINT, REST, SPOTS, THERE, TIP, TURN, all_rows, all_wrong, check_error,
    check_errors, copy_of, random_rule, right_answers, right_ways, same, show,
)
from test_examples import WRONG_EXAMPLES, WRONG_QUERY, state_of
from test_keepers import changed_keepers, few_keys
from test_languages import WRONG
from test_places import JUST_BEYOND, JUST_REACHED
from test_trees import any_tree, changed, exchanged, parts_of

TOLD = tuple((0, {"x": row[0], "y": row[1]}) for _, row in REST.places)
TREE = ("choose", "x", (("choose", "y", (("broken", ("out", "at", ("x", "y"))), ("fine",))), ("fine",)))
SHOWN = ("query", NOWHERE, TOLD, ((TREE,),))
SHAPE = {"none": 0, "one": 1, "two": 2, "three": 3}


def fitting_cases(many, seed, most_atoms=2, variables="wxyz"):
    """Small queries with examples that they fit."""
    rng = random.Random(seed)
    for _ in range(many):
        columns = rng.randint(0, 2)
        query = Query(columns, *[random_rule(rng, columns, most_atoms, variables) for _ in range(rng.choice((0, 1, 1, 2)))])
        cases = []
        for _ in range(rng.randint(1, 3)):
            database = database_of(rng, tuple("abc"[:rng.choice((1, 2, 2, 3))]), SHAPE)
            rows = {row for rule in query.rules for row in right_answers(rule, database)}
            must = [row for row in rows if rng.random() < 0.6]
            barred = [row for row in all_rows(database.domain, columns) if row not in rows and rng.random() < 0.6]
            cases.append((database, tuple(must), tuple(barred)))
        yield Examples(columns, *cases), query, rng


def changed_papers(examples, value, rng):
    """Values like a fitting paper with one part exchanged, left out, put in, or of another kind."""
    word, query, told, trees = value
    for part in ("keeper", None, 0, ["query"]):
        yield part, query, told, trees
    for part in (None, query.rules, Query(query.columns + 1), Query(query.columns), query | Query(query.columns, Rule(("x",) * query.columns))):
        yield word, part, told, trees
    for at in range(len(query)):
        yield word, query.without(at), told, trees
        yield word, query.without(at), told, trees[:at] + trees[at + 1:]
    for part in [None, list(told), told + told[:1], told[::-1], told[1:], told[:-1], (), {}]:
        yield word, query, part, trees
    for at, (index, mapping) in enumerate(told):
        ways = [(index + 1, mapping), (index - 1, mapping), (bool(index), mapping), (index,), (index, mapping, 1), [index, mapping],
                (index, {**mapping, "q": "a"}), (index, tuple(mapping.items())), None, (None, mapping), (mapping, index)]
        for name in mapping:
            ways.append((index, {other: mapping[other] for other in mapping if other != name}))
            ways += [(index, {**mapping, name: part}) for part in ("a", "b", "c", "d", None, ["a"])]
        for way in ways:
            yield word, query, told[:at] + (way,) + told[at + 1:], trees
    for part in [None, list(trees), trees + ((),), trees[::-1], trees[1:], ()]:
        yield word, query, told, part
    leaves = [("fine",), None, "x"] + [("broken", atom) for rule in query for atom in rule][:2]
    others = [one for leaf in leaves for one in exchanged(trees, leaf)] + list(changed(trees))
    for part in rng.sample(others, min(60, len(others))):
        yield word, query, told, part
    yield value[:3]
    yield value + (1,)
    yield list(value)
    yield told, query, word, trees


class FittingPaperTest(unittest.TestCase):
    def test_queries_that_fit(self):
        for examples, query, _ in fitting_cases(150, 1):
            told = fitting_paper(examples, query)
            self.assertIs(told[1] == query, True)
            self.assertTrue(is_right_fitting_paper(examples, told))
            self.assertIs(is_fitting_paper(examples, told), True)
            for language in LANGUAGES:
                self.assertIs(is_paper(examples, language, told), is_query_of(query, language))
            self.assertEqual((len(told[2]), len(told[3])), (len(right_places(examples)), len(query)))

    def test_queries_that_do_not_fit(self):
        tried = 0
        for examples, query, rng in fitting_cases(150, 2):
            for index, (database, must, barred) in enumerate(examples.cases):
                for row in all_rows(database.domain, examples.columns):
                    other = examples.with_must(index, row) if rng.random() < 0.5 else examples.with_barred(index, row)
                    if right_misfits(other, query):
                        check_error(self, InvalidOperation, fitting_paper, other, query)
                        tried += 1
                    else:
                        self.assertTrue(is_right_fitting_paper(other, fitting_paper(other, query)))
        self.assertGreater(tried, 200)

    def test_any_ways_and_any_trees(self):
        for examples, query, rng in fitting_cases(100, 3):
            found = []
            for index, row in examples.places:
                ways = [(at, way) for at, rule in enumerate(query) for way in right_ways(rule, examples.cases[index][0], row)]
                at, way = rng.choice(ways)
                found.append((at, {name: way[name] for name in sorted(way, reverse=True)}))
            trees = tuple(
                tuple(any_tree(rng, rule, database, barred, {}) for database, _, barred in examples.cases) for rule in query
            )
            self.assertIs(is_fitting_paper(examples, ("query", query, tuple(found), trees)), True)

    def test_changed_papers(self):
        judged = {True: 0, False: 0}
        for examples, query, rng in fitting_cases(60, 4):
            for value in changed_papers(examples, fitting_paper(examples, query), rng):
                right = is_right_fitting_paper(examples, value)
                judged[right] += 1
                self.assertIs(is_fitting_paper(examples, value), right, show(value))
                for language in ("flat one plain", "deep many not", "flat many unlike"):
                    is_query = right and is_query_of(value[1], language)
                    self.assertIs(is_paper(examples, language, value), is_query)
        self.assertGreater(min(judged.values()), 200)

    def test_papers_of_other_examples(self):
        for examples, query, _ in fitting_cases(80, 5):
            told = fitting_paper(examples, query)
            for other in (examples.turned(), examples | examples.only(0) if len(examples) < 4 else examples, examples.only(0)):
                self.assertIs(is_fitting_paper(other, told), is_right_fitting_paper(other, told))

    def test_the_document_says(self):
        self.assertIs(is_fitting_paper(REST, SHOWN), True)
        self.assertIs(is_paper(REST, "flat one not", SHOWN), True)
        self.assertIs(is_fitting_paper(REST, ("query", NOWHERE, TOLD[::-1], ((TREE,),))), False)
        self.assertEqual([is_paper(REST, language, SHOWN) for language in LANGUAGES], [language.endswith("not") for language in LANGUAGES])
        rng = random.Random(6)
        for value in changed_papers(REST, SHOWN, rng):
            self.assertIs(is_fitting_paper(REST, value), is_right_fitting_paper(REST, value), show(value))

    def test_without_places_rules_and_barred_rows(self):
        none = Examples(1, (PATH, (), None), (PATH, (), ()))
        self.assertEqual(fitting_paper(none, Query(1)), ("query", Query(1), (), ()))
        self.assertIs(is_fitting_paper(none, ("query", Query(1), (), ())), True)
        self.assertIs(is_fitting_paper(none, ("query", Query(2), (), ())), False)
        self.assertIs(is_fitting_paper(none, ("query", Query(1), (), ((),))), False)
        told = fitting_paper(Examples(1, (PATH, (), ())), Query(1, TIP))
        self.assertIs(is_fitting_paper(Examples(1, (PATH, (), ())), ("query", Query(1, TIP), (), ((("fine",),),))), True)
        self.assertTrue(is_right_fitting_paper(Examples(1, (PATH, (), ())), told))

    def test_queries_over_other_tables(self):
        none = Examples(1, (PATH, (), ()))
        for atom in (("in", "none", ()), ("in", "edge", ("x",)), ("out", "edge", ("x", "x", "x"))):
            query = Query(1, Rule(("x",), atom))
            self.assertIs(is_fitting_paper(none, ("query", query, (), ((("fine",),),))), False)
            self.assertIs(is_paper(none, "deep many not", ("query", query, (), ((("fine",),),))), False)

    def test_it_refuses(self):
        for examples in (ENDS, REST, BEGIN, EITHER, Examples(1, (PATH, (), ()))):
            for value in EVERY_KIND:
                self.assertIs(is_fitting_paper(examples, value), is_right_fitting_paper(examples, value), show(value))
                for language in LANGUAGES:
                    self.assertIs(is_paper(examples, language, value), is_right_paper(examples, language, value), show(value))

    def test_errors(self):
        check_errors(self, fitting_paper, [(ENDS, WRONG_EXAMPLES), (Query(1, TIP), WRONG_QUERY)])
        check_errors(self, lambda examples: is_fitting_paper(examples, SHOWN), [(REST, WRONG_EXAMPLES)])
        for columns in (0, 2, 3):
            check_error(self, InvalidOperation, fitting_paper, ENDS, Query(columns))
        far = Query(1, TIP, Rule(("x",), ("in", "none", ("x",)), ("out", "far", ())))
        check_error(self, UnknownName("far"), fitting_paper, ENDS, far)
        check_error(self, InvalidOperation, fitting_paper, ENDS, Query(1, Rule(("x",), ("in", "edge", ("x",)))))
        check_error(self, InvalidQuery, fitting_paper, ENDS, TIP)

    def test_bound(self):
        names = "abcdefghijk"
        three = Examples(0, (Database(("a", "b", "c"), t=whole_table(("a", "b", "c"), 1)), ((),), ()))
        long = {many: Query(0, Rule((), *[("in", "t", (name,)) for name in names[:many]])) for many in (10, 11)}
        self.assertTrue(is_fitting_paper(three, fitting_paper(three, long[10])))
        check_error(self, TooMany(65536), fitting_paper, three, long[11])
        check_error(self, TooMany(65536), fitting_paper, three.turned(), long[11])
        check_error(self, InvalidOperation, fitting_paper, three.turned(), long[10])
        way = (0, {name: "c" for name in names})
        self.assertIs(is_fitting_paper(three, ("query", long[11], (way,), ((("fine",),),))), True)
        self.assertIs(is_fitting_paper(three, ("query", long[11], ((0, {**way[1], "a": "d"}),), ((("fine",),),))), False)


class GuaranteeTest(unittest.TestCase):
    def check(self, examples, language):
        """Exactly one exists: a query that fits, or a keeper [0.17]."""
        told = paper(examples, language)
        if told[0] == "keeper":
            self.assertTrue(is_right_keeper(examples, language, told))
            self.assertIs(is_askable(examples, language), False)
            with self.assertRaises(NoQuery) as error:
                query_for(examples, language)
            self.assertTrue(is_right_keeper(examples, language, error.exception.keeper))
            self.assertIs(is_keeper(examples, language, error.exception.keeper), True)
            self.assertIsNone(query_of(examples, language, told))
        else:
            query = query_for(examples, language)
            for one in (query, told[1]):
                self.assertEqual(right_misfits(examples, one), [])
                self.assertTrue(is_query_of(one, language))
                self.assertIs(one.is_in(language), True)
                self.assertIs(examples(one), True)
            self.assertTrue(is_right_fitting_paper(examples, told))
            self.assertIs(is_askable(examples, language), True)
            self.assertIsNone(keeper(examples, language))
            self.assertEqual(query_of(examples, language, told), told[1])
        self.assertIs(is_paper(examples, language, told), True)
        return told[0] == "query"

    def test_small_examples_and_all_languages(self):
        found = {True: 0, False: 0}
        for examples, _ in many_examples(200, 11, most_cases=3):
            for language in LANGUAGES:
                if few_keys(examples, language, 4):
                    right = self.check(examples, language)
                    found[right] += 1
                    self.assertIs(has_keeper(examples, language), not right)
        self.assertGreater(min(found.values()), 500)

    def test_three_values_and_more_places(self):
        for examples, _ in many_examples(25, 12, most_values=3, most_cases=2, most_places=3):
            for language in LANGUAGES:
                if few_keys(examples, language, 4 if language.endswith("not") else 8):
                    self.check(examples, language)

    def test_what_is_within_can_less(self):
        for examples, _ in many_examples(60, 13, most_cases=2):
            told = {language: is_askable(examples, language) for language in LANGUAGES}
            for one, other in itertools.product(LANGUAGES, repeat=2):
                if all(x in (y, "flat", "one", "plain") or (x, y) == ("unlike", "not") for x, y in zip(one.split(), other.split())):
                    self.assertLessEqual(told[one], told[other])

    def test_no_query_fits_beside_a_keeper(self):
        rng = random.Random(14)
        tried = 0
        for examples, query, _ in fitting_cases(400, 15, 2, "xyz"):
            if rng.random() < 0.5 and examples.places:
                index, row = rng.choice(examples.places)
                examples = examples.with_barred(index, row)
            for language in LANGUAGES:
                if is_query_of(query, language) and not right_misfits(examples, query):
                    try:
                        self.assertIs(is_askable(examples, language), True)
                        tried += 1
                    except TooMany:
                        self.assertTrue(language.startswith("deep one"))
        self.assertGreater(tried, 500)

    def test_without_places_and_barred_rows(self):
        for language in LANGUAGES:
            self.assertIs(self.check(Examples(2, (POINT, (), None), (POINT, (), ())), language), language not in (
                "flat one plain", "deep one plain",
            ))
            self.assertIs(self.check(Examples(2, (POINT, tuple(all_rows("ab", 2)), None)), language), True)
            self.assertIs(self.check(Examples(0, (PATH, ((),), ())), language), True)
            self.assertIs(self.check(Examples(1, (Database(("a",)), (("a",),), (("a",),))), language), False)
        self.assertEqual(query_for(Examples(2, (POINT, (), None)), "flat many plain"), Query(2))

    def test_one_value(self):
        one = Database(("a",), t=Table(2, ("a", "a")))
        void = Database(("a",), t=Table(2))
        for language in LANGUAGES:
            self.assertIs(self.check(Examples(1, (one, (("a",),), ()), (void, (), None)), language), True)
            self.assertIs(self.check(Examples(1, (void, (("a",),), ()), (one, (), None)), language), language.endswith("not"))

    def test_the_document_says(self):
        for examples in (ENDS, REST, BEGIN, EITHER):
            for language in LANGUAGES:
                self.check(examples, language)
        askable = {
            "ends": [language for language in LANGUAGES if is_askable(ENDS, language)],
            "rest": [language for language in LANGUAGES if is_askable(REST, language)],
            "begin": [language for language in LANGUAGES if is_askable(BEGIN, language)],
            "either": [language for language in LANGUAGES if is_askable(EITHER, language)],
        }
        self.assertEqual(askable, {
            "ends": ["deep one unlike", "deep one not", "deep many unlike", "deep many not"],
            "rest": ["flat one not", "flat many not", "deep one not", "deep many unlike", "deep many not"],
            "begin": ["deep one not", "deep many not"],
            "either": ["flat many plain", "flat many unlike", "flat many not", "deep one unlike", "deep one not",
                       "deep many plain", "deep many unlike", "deep many not"],
        })

    def test_one_database_with_one_three_or_more_values(self):
        # Four languages can all do the same there; with two values only those with "many" do.
        rng = random.Random(16)
        four = ("deep one unlike", "deep one not", "deep many unlike", "deep many not")
        for at in range(40):
            database = database_of(rng, tuple("abc"[:rng.choice((1, 3))]), {"one": 1, "two": 2}, 0.4)
            rows = all_rows(database.domain, 1)
            must = tuple(rng.sample(rows, min(len(rows), rng.randint(1, 2))))
            told = {is_askable(Examples(1, (database, must, None)), language) for language in four}
            self.assertEqual(len(told), 1)
            two = database_of(rng, ("a", "b"), {"one": 1, "two": 2}, 0.4)
            must = tuple(rng.sample(all_rows("ab", 2), 2))
            told = {is_askable(Examples(2, (two, must, None)), language) for language in four[2:]}
            self.assertEqual(len(told), 1)

    def test_what_is_not_true(self):
        # One rule can do each of two rows, and not both; and one query fits each case, but none both.
        rows = (("a", "b"), ("b", "a"), ("b", "b"))
        for one, other in itertools.combinations(rows, 2):
            self.assertTrue(is_askable(Examples(2, (POINT, (one, other), (("a", "a"),))), "deep one unlike"))
        self.assertFalse(is_askable(REST, "deep one unlike"))
        for one in (BEGIN.only(0), BEGIN.only(1)):
            self.assertTrue(is_askable(one, "deep many unlike"))
        self.assertFalse(is_askable(BEGIN, "deep many unlike"))


class QueryForTest(unittest.TestCase):
    def test_errors(self):
        language = ("deep one not", WRONG)
        for call in (is_askable, query_for, paper):
            check_errors(self, call, [(ENDS, WRONG_EXAMPLES), language])
        check_errors(self, lambda *two: is_paper(*two, SHOWN), [(REST, WRONG_EXAMPLES), language])

    def test_errors_of_query_of(self):
        wrong = all_wrong(InvalidOperation, lambda value: is_right_paper(REST, "flat one not", value))
        wrong += [(value, InvalidOperation) for value in changed_papers(REST, SHOWN, random.Random(7))
                  if not is_right_paper(REST, "flat one not", value)]
        check_errors(self, query_of, [(REST, WRONG_EXAMPLES), ("flat one not", WRONG), (SHOWN, wrong)])
        for language in LANGUAGES:
            if not language.endswith("not"):
                check_error(self, InvalidOperation, query_of, REST, language, SHOWN)
            else:
                self.assertIs(query_of(REST, language, SHOWN), NOWHERE)
        wrong = [value for value in changed_keepers(TURN) if not is_right_keeper(ENDS, "deep many plain", value)]
        for value in wrong:
            check_error(self, InvalidOperation, query_of, ENDS, "deep many plain", value)
        self.assertIsNone(query_of(ENDS, "deep many plain", TURN))
        check_error(self, InvalidOperation, query_of, ENDS, "deep many unlike", TURN)

    def test_bound(self):
        for examples in JUST_BEYOND:
            for language in ("deep one plain", "deep one unlike", "deep one not"):
                for call in (is_askable, query_for, paper):
                    check_error(self, TooMany(65536), call, examples, language)
                    for case, (database, must, barred) in enumerate(examples.cases):
                        if must:
                            check_error(self, TooMany(65536), call, examples.with_barred(case, must[0]), language)
                self.assertIs(is_paper(examples, language, paper(examples, "flat one plain")), True)
        for examples in JUST_REACHED:
            for language in LANGUAGES:
                self.assertIs(is_askable(examples, language), True)
                query = query_for(examples, language)
                self.assertIs(examples(query), True)
                self.assertTrue(is_fitting_paper(examples, paper(examples, language)))

    def test_just_at_the_bound_with_tables(self):
        rng = random.Random(17)
        for values, many in ((2, 4), (3, 2), (6, 1)):
            for _ in range(3):
                domain = tuple("abcdef"[:values])
                database = database_of(rng, domain, {"two": 2, "three": 3}, 0.4)
                must = tuple(rng.sample(all_rows(domain, 2), many))
                told = Examples(2, (database, must, None))
                for language in LANGUAGES:
                    value = paper(told, language)
                    self.assertIs(is_paper(told, language, value), True)
                    if value[0] == "query":
                        self.assertIs(told(query_for(told, language)), True)

    def test_many_places(self):
        rng = random.Random(18)
        domain = tuple("abcdef")
        database = database_of(rng, domain, {"one": 1, "two": 2}, 0.4)
        must = tuple(rng.sample(all_rows(domain, 2), 18))
        told = Examples(2, (database, must, None), (database, must[:9], must[9:10]))
        for language in LANGUAGES:
            if not language.startswith("deep one"):
                self.assertIs(is_paper(told, language, paper(told, language)), True)
                self.assertIs(is_paper(told.only(0), language, paper(told.only(0), language)), True)

    def test_rules_of_places_that_are_equal(self):
        both = Examples(1, (SPOTS, (("a",), ("b",), ("c",)), ()), (SPOTS, (("a",),), ()))
        for language in LANGUAGES:
            if not language.startswith("deep one"):
                self.assertTrue(is_right_fitting_paper(both, paper(both, language)))
        self.assertEqual(len(paper(both, "flat many plain")[2]), 4)
        rows = tuple(all_rows("abc", 2))
        told = Examples(2, (Database(("a", "b", "c")), rows, ()))
        self.assertTrue(is_right_fitting_paper(told, paper(told, "flat many unlike")))
        self.assertLessEqual(len(query_for(told, "flat many unlike")), 9)

    def test_trees_of_papers_are_small_enough(self):
        told = paper(ENDS, "deep one unlike")
        self.assertTrue(all(len(parts_of(tree)) < 2 ** 17 for trees in told[3] for tree in trees))


class StateTest(unittest.TestCase):
    def test_nothing_changes(self):
        value = copy_of(SHOWN)
        for examples in (ENDS, REST, BEGIN, EITHER):
            before = copy_of(state_of(examples))
            for language in LANGUAGES:
                told = paper(examples, language)
                kept = copy_of(told)
                is_paper(examples, language, told)
                query_of(examples, language, told)
                self.assertTrue(same(told, kept))
                if told[0] == "keeper":
                    told[3].clear()
                else:
                    for _, mapping in told[2]:
                        mapping.clear()
                self.assertTrue(same(paper(examples, language), kept))
            self.assertTrue(same(state_of(examples), before))
        is_fitting_paper(REST, value)
        is_paper(REST, "flat one not", value)
        self.assertTrue(same(value, SHOWN))

    def test_keys_are_ascending(self):
        for examples, query, _ in fitting_cases(40, 19):
            for _, mapping in fitting_paper(examples, query)[2]:
                self.assertEqual(list(mapping), sorted(mapping))
        for examples in (ENDS, REST, BEGIN, EITHER):
            for language in LANGUAGES:
                told = paper(examples, language)
                for mapping in [told[3]] if told[0] == "keeper" else [mapping for _, mapping in told[2]]:
                    self.assertEqual(list(mapping), sorted(mapping))

    def test_what_was_meant(self):
        self.assertEqual([THERE["to"].is_within(BACK["to"]), fitting_paper(BEGIN, Query(1, Rule(
            ("x",), ("in", "to", ("x", "y")), ("out", "to", ("y", "x")),
        )))[2]], [True, ((0, {"x": "a", "y": "b"}),)])


if __name__ == "__main__":
    unittest.main()
