"""The ladder: [0.1] to [0.6], [0.16], [0.17], [0.20], [0.21], [11.1] to [11.3], stage 11."""

import itertools
import random
import unittest

from askable.ask.languages import LANGUAGES
from askable.ask.rules import Query, Rule
from askable.base.databases import Database
from askable.base.tables import Table
from askable.errors import InvalidExamples, InvalidOperation, TooMany
from askable.keep.keepers import is_keeper, keeper
from askable.wish.examples import Examples
from askable.wish.ladder import carried, clashes, is_ladder, ladder, ladder_papers, least_languages
from askable.wish.papers import fitting_paper, is_askable, is_paper, paper
from oracles import (
    has_keeper, is_query_of, is_right_fitting_paper, is_right_keeper, is_right_paper, many_examples, right_columns, right_keys,
    right_places, right_thrown, whole_keys,
)
from support import (
    BACK, BEGIN, EITHER, ENDS, EVERY_KIND, NOWHERE, PATH, POINT, REST, THERE, TIP, TURN, all_rows, all_wrong, check_error,
    check_errors, copy_of, same, show,
)
from test_examples import WRONG_EXAMPLES, state_of
from test_keepers import changed_keepers, few_keys
from test_languages import WRONG
from test_papers import SHOWN, changed_papers, fitting_cases
from test_places import JUST_BEYOND, JUST_REACHED
from test_trees import is_right_tree

DEEP_ONE = ("deep one plain", "deep one unlike", "deep one not")
# More places than the bound allows: a rule that is found in a flat language, none in any language, and neither.
TWICE = REST | REST
BEYOND = [
    TWICE, TWICE.with_barred(1, ("a", "b")), TWICE | REST, Examples(2, (POINT, tuple(all_rows("ab", 2)), ())) | REST,
    Examples(1, (PATH, (("a",), ("c",)), (("b",),)), (PATH, (("a",),), ())),
    Examples(1, (PATH, (("a",), ("c",)), (("b",),)), (PATH, (("b",),), (("a",),))),
    Examples(2, (PATH, (("a", "c"), ("c", "a"), ("a", "a")), (("b", "b"),))),
]


def right_within(one, other):
    """Whether a language is within another one [0.11]."""
    orders = (("flat", "deep"), ("one", "many"), ("plain", "unlike", "not"))
    return all(order.index(x) <= order.index(y) for order, x, y in zip(orders, one.split(" "), other.split(" ")))


def is_refused(examples, language):
    """Whether the bound refuses a language [0.21]."""
    if language not in DEEP_ONE:
        return False
    most = max(len(database.domain) for database, _, _ in examples.cases)
    keys = 1
    for index, _ in examples.places:
        keys *= len(examples.cases[index][0].domain)
    return most > 1 and (keys > 16 or most ** keys > 65536)


def right_ladder(examples, askable):
    """The ladder, by what is known of the languages that the bound does not refuse [11.1]."""
    known = {language: askable(examples, language) for language in LANGUAGES if not is_refused(examples, language)}
    told = dict(known)
    for language in DEEP_ONE:
        if language not in known:
            others = [other for other in known if other not in DEEP_ONE]
            if any(known[other] for other in others if right_within(other, language)):
                told[language] = True
            elif any(not known[other] for other in others if right_within(language, other)):
                told[language] = False
            else:
                told[language] = None
    return told


def right_least(told):
    right = [language for language in told if told[language]]
    return tuple(sorted(x for x in right if not any(y != x and right_within(y, x) for y in right)))


def is_right_ladder(examples, told, value):
    """Whether a value is a dict of papers as the ladder has it."""
    if not isinstance(value, dict) or len(value) != 12 or not all(language in value for language in LANGUAGES):
        return False
    for language in LANGUAGES:
        if is_refused(examples, language) and not told[language]:
            if value[language] is not None:
                return False
        elif not is_right_paper(examples, language, value[language]):
            return False
    return True


def right_clashes(examples, language):
    """All clashes, by looking at all tuples of places [11.3]."""
    many = len(examples.places)
    if language.split(" ")[1] == "many":
        lots = [(at,) for at in range(many)]
    else:
        lots = [lot for size in range(many + 1) for lot in itertools.combinations(range(many), size)]
    thrown = {}
    for lot in lots:
        places = tuple(right_places(examples)[at] for at in lot)
        for target, (_, _, barred) in enumerate(examples.cases):
            for row in set(right_thrown(examples, language, places, target)) & set(barred):
                thrown.setdefault((target, row), []).append(lot)
    found = []
    for (target, row), told in thrown.items():
        found += [(target, row, lot) for lot in told if not any(set(other) < set(lot) for other in told)]
    return tuple(sorted(found))


def right_carried(examples, language, value, other):
    """The keeper for a language within [11.2]."""
    _, places, target, mapping = value
    if language.split(" ")[1] == "many" and other.split(" ")[1] == "one":
        whole = right_places(examples)
        at = whole.index(places[0])
        return "keeper", whole, target, {key: mapping[(key[at],)] for key in right_keys(examples, other, whole)}
    return "keeper", places, target, {key: mapping[key] for key in right_keys(examples, other, places)}


class LadderTest(unittest.TestCase):
    def test_by_trying_all(self):
        found = {True: 0, False: 0}
        for examples, _ in many_examples(120, 1, most_cases=3):
            if all(few_keys(examples, language) for language in LANGUAGES):
                right = right_ladder(examples, lambda one, language: not has_keeper(one, language))
                told = ladder(examples)
                self.assertTrue(same(told, right))
                self.assertEqual(list(told), sorted(LANGUAGES))
                self.assertEqual(least_languages(examples), right_least(right))
                for value in told.values():
                    found[value] += 1
        self.assertGreater(min(found.values()), 200)

    def test_behind_the_bound(self):
        found = {True: 0, False: 0, None: 0}
        for examples in BEYOND + JUST_BEYOND + JUST_REACHED:
            right = right_ladder(examples, is_askable)
            told = ladder(examples)
            self.assertTrue(same(told, right))
            self.assertEqual(list(told), sorted(LANGUAGES))
            self.assertEqual(least_languages(examples), right_least(right))
            for language in DEEP_ONE:
                if is_refused(examples, language):
                    check_error(self, TooMany(65536), is_askable, examples, language)
                    found[told[language]] += 1
                else:
                    self.assertIs(is_askable(examples, language), told[language])
        self.assertGreater(min(found.values()), 3)

    def test_three_answers(self):
        told = ladder(TWICE)
        self.assertEqual([told[language] for language in DEEP_ONE], [False, None, True])
        self.assertEqual(least_languages(TWICE), ("deep many unlike", "flat one not"))
        told = ladder(TWICE.with_barred(1, ("a", "b")))
        self.assertEqual(set(told.values()), {False})
        self.assertEqual(least_languages(TWICE.with_barred(1, ("a", "b"))), ())

    def test_just_reached(self):
        # With one place less nothing is refused, with one more it is told by the others.
        whole = Examples(2, (POINT, tuple(all_rows("ab", 2)), ()), (POINT, (), ()))
        self.assertEqual([is_refused(whole, "deep one plain"), is_refused(whole.with_must(1, ("a", "a")), "deep one plain")], [False, True])
        self.assertEqual(set(ladder(whole).values()), {True})
        rest = REST | Examples(2, (POINT, (("a", "b"),), (("a", "a"),)))
        self.assertIs(ladder(rest)["deep one unlike"], False)
        self.assertIs(ladder(rest.with_must(1, ("b", "a")))["deep one unlike"], None)

    def test_the_document_says(self):
        self.assertEqual(least_languages(ENDS), ("deep one unlike",))
        self.assertEqual(least_languages(REST), ("deep many unlike", "flat one not"))
        self.assertEqual(least_languages(BEGIN), ("deep one not",))
        self.assertEqual(least_languages(EITHER), ("deep one unlike", "flat many plain"))

    def test_without_places(self):
        told = ladder(Examples(2, (POINT, (), None)))
        self.assertEqual([language for language in told if not told[language]], ["deep one plain", "flat one plain"])
        self.assertEqual(least_languages(Examples(2, (POINT, (), None))), ("flat many plain", "flat one unlike"))
        self.assertEqual(least_languages(Examples(0, (POINT, (), None))), ("deep one unlike", "flat many plain"))
        self.assertEqual(least_languages(Examples(1, (POINT, (), ()))), ("flat one plain",))

    def test_errors(self):
        for call in (ladder, least_languages, ladder_papers, lambda examples: is_ladder(examples, {})):
            check_errors(self, call, [(ENDS, WRONG_EXAMPLES)])


class LadderPapersTest(unittest.TestCase):
    def check(self, examples):
        told = ladder(examples)
        papers = ladder_papers(examples)
        self.assertEqual(list(papers), sorted(LANGUAGES))
        for language, value in papers.items():
            if is_refused(examples, language) and not told[language]:
                self.assertIsNone(value)
            else:
                self.assertTrue(is_paper(examples, language, value))
                self.assertIs(value[0] == "query", told[language])
        self.assertIs(is_ladder(examples, papers), True)
        self.assertIs(is_ladder(examples, {language: papers[language] for language in LANGUAGES[::-1]}), True)
        return papers

    def test_small_examples(self):
        for examples, _ in many_examples(60, 2, most_cases=3):
            papers = self.check(examples)
            if all(few_keys(examples, language) for language in LANGUAGES):
                for language, value in papers.items():
                    self.assertTrue(is_right_paper(examples, language, value))

    def test_behind_the_bound(self):
        for examples in BEYOND + JUST_BEYOND[:9]:
            self.check(examples)
        for examples in (ENDS, REST, BEGIN, EITHER):
            self.check(examples)

    def test_changed_ladders(self):
        rng = random.Random(3)
        judged = {True: 0, False: 0}
        for examples in (ENDS, BEGIN, EITHER, TWICE, Examples(2, (POINT, (), None))):
            told = ladder(examples)
            papers = ladder_papers(examples)
            for language in LANGUAGES:
                values = [None, True, False, ("keeper",), {}] + [papers[other] for other in LANGUAGES]
                if papers[language] is not None and examples != TWICE:
                    value = papers[language]
                    more = changed_keepers(value) if value[0] == "keeper" else changed_papers(examples, value, rng)
                    values += rng.sample(list(more), 12)
                for value in values:
                    changed = {**papers, language: value}
                    right = is_right_ladder(examples, told, changed)
                    judged[right] += 1
                    self.assertIs(is_ladder(examples, changed), right, (language, show(value)))
                less = {other: papers[other] for other in LANGUAGES if other != language}
                self.assertIs(is_ladder(examples, less), False)
                self.assertIs(is_ladder(examples, {**less, "deep": papers[language]}), False)
                self.assertIs(is_ladder(examples, {**papers, "deep": papers[language]}), False)
            for value in (list(papers.items()), tuple(papers.items()), list(papers), tuple(papers.values())):
                self.assertIs(is_ladder(examples, value), False)
        self.assertGreater(min(judged.values()), 100)

    def test_none_just_where_the_ladder_has_it(self):
        papers = ladder_papers(TWICE)
        self.assertEqual([language for language in papers if papers[language] is None], ["deep one plain", "deep one unlike"])
        # A keeper that the bound refuses is one, but the ladder has none there.
        keys = whole_keys(TWICE, TWICE.places)
        value = ("keeper", TWICE.places, 0, {key: "a" for key in keys})
        self.assertTrue(is_keeper(TWICE, "deep one plain", value))
        self.assertIs(is_ladder(TWICE, {**papers, "deep one plain": value}), False)
        self.assertIs(is_ladder(TWICE, {**papers, "deep one unlike": papers["deep many unlike"]}), False)
        self.assertIs(is_ladder(TWICE, {**papers, "deep one not": None}), False)
        shown = fitting_paper(TWICE, NOWHERE)
        self.assertIs(is_ladder(TWICE, {**papers, "deep one not": shown}), True)
        self.assertIs(is_ladder(TWICE, {**papers, "flat one not": shown, "deep many not": shown}), True)
        self.assertIs(is_ladder(TWICE, {**papers, "flat one unlike": shown}), False)

    def test_it_refuses(self):
        for examples in (ENDS, TWICE):
            for value in EVERY_KIND:
                self.assertIs(is_ladder(examples, value), False, show(value))

    def test_what_is_returned_can_be_changed(self):
        for examples in (ENDS, TWICE):
            before = copy_of(state_of(examples))
            papers = ladder_papers(examples)
            kept = copy_of(papers)
            self.assertTrue(same(papers, kept))
            is_ladder(examples, papers)
            self.assertTrue(same(papers, kept))
            for language in LANGUAGES:
                value = papers.pop(language)
                if value is not None:
                    for mapping in [value[3]] if value[0] == "keeper" else [mapping for _, mapping in value[2]]:
                        mapping.clear()
                self.assertTrue(same(papers, {other: kept[other] for other in papers}))
            self.assertTrue(same(ladder_papers(examples), kept))
            told = ladder(examples)
            told.clear()
            self.assertEqual(len(ladder(examples)), 12)
            self.assertTrue(same(state_of(examples), before))


class CarriedTest(unittest.TestCase):
    def test_keepers(self):
        carried_ones = 0
        for examples, _ in many_examples(80, 4, most_cases=2):
            if not all(few_keys(examples, language, 9) for language in LANGUAGES):
                continue
            for language in LANGUAGES:
                value = keeper(examples, language)
                if value is None:
                    continue
                value = value[:3] + ({key: value[3][key] for key in sorted(value[3], reverse=True)},)
                before = copy_of(value)
                for other in LANGUAGES:
                    if right_within(other, language):
                        told = carried(examples, language, value, other)
                        self.assertEqual(told, right_carried(examples, language, value, other))
                        self.assertTrue(is_right_keeper(examples, other, told))
                        self.assertIs(is_keeper(examples, other, told), True)
                        self.assertEqual(list(told[3]), sorted(told[3]))
                        told[3].clear()
                        carried_ones += 1
                    else:
                        check_error(self, InvalidOperation, carried, examples, language, value, other)
                    self.assertTrue(same(value, before))
        self.assertGreater(carried_ones, 1000)

    def test_fitting_papers(self):
        for examples, query, _ in fitting_cases(60, 5):
            value = fitting_paper(examples, query)
            value = value[:2] + (tuple((at, {name: way[name] for name in sorted(way, reverse=True)}) for at, way in value[2]), value[3])
            before = copy_of(value)
            for language, other in itertools.product(LANGUAGES, repeat=2):
                if is_query_of(query, language) and right_within(language, other):
                    told = carried(examples, language, value, other)
                    self.assertEqual(told, value)
                    self.assertIs(is_paper(examples, other, told), True)
                    for _, mapping in told[2]:
                        self.assertEqual(list(mapping), sorted(mapping))
                        mapping.clear()
                else:
                    check_error(self, InvalidOperation, carried, examples, language, value, other)
                self.assertTrue(same(value, before))

    def test_within_around_and_neither(self):
        for language, other in itertools.product(LANGUAGES, repeat=2):
            if language.endswith("not"):
                call = (carried, REST, language, SHOWN, other)
                if right_within(language, other):
                    self.assertEqual(carried(*call[1:]), SHOWN)
                else:
                    check_error(self, InvalidOperation, *call)
        check_error(self, InvalidOperation, carried, REST, "deep many not", SHOWN, "flat one not")
        check_error(self, InvalidOperation, carried, ENDS, "deep many plain", TURN, "deep many unlike")
        told = carried(ENDS, "deep many plain", TURN, "deep one plain")
        self.assertEqual(told, ("keeper", ENDS.places, 0, {(x, y): TURN[3][(x,)] for x in "abc" for y in "abc"}))
        self.assertEqual(carried(ENDS, "deep one plain", told, "flat one plain")[3], {("a", "c"): "b"})
        self.assertEqual(carried(ENDS, "deep many plain", TURN, "flat many plain"), ("keeper", ((0, ("a",)),), 0, {("a",): "b"}))
        self.assertEqual(carried(ENDS, "deep many plain", TURN, "deep many plain"), TURN)
        second = ("keeper", ((0, ("c",)),), 0, {("a",): "a", ("b",): "b", ("c",): "a"})
        self.assertFalse(is_keeper(ENDS, "deep many plain", second))
        second = ("keeper", ((0, ("c",)),), 0, {("a",): "b", ("b",): "c", ("c",): "b"})
        told = carried(ENDS, "deep many plain", second, "deep one plain")
        self.assertEqual(told[3], {(x, y): second[3][(y,)] for x in "abc" for y in "abc"})

    def test_all_papers_of_the_document(self):
        for examples in (ENDS, REST, BEGIN, EITHER):
            for language in LANGUAGES:
                value = paper(examples, language)
                for other in LANGUAGES:
                    fits = right_within(language, other) if value[0] == "query" else right_within(other, language)
                    if fits:
                        told = carried(examples, language, value, other)
                        self.assertTrue(is_right_paper(examples, other, told))
                        self.assertEqual(told[0], value[0])
                    else:
                        check_error(self, InvalidOperation, carried, examples, language, value, other)

    def test_bound(self):
        for examples in BEYOND + [examples.with_barred(0, (examples.cases[0][1] or ((),))[0]) for examples in JUST_BEYOND if examples.cases[0][1]]:
            for language in ("deep many plain", "deep many unlike", "deep many not"):
                value = keeper(examples, language)
                if value is None:
                    continue
                for other in LANGUAGES:
                    if not right_within(other, language):
                        check_error(self, InvalidOperation, carried, examples, language, value, other)
                    elif other in DEEP_ONE:
                        check_error(self, TooMany(65536), carried, examples, language, value, other)
                        check_error(self, InvalidOperation, carried, examples, language, value[:3], other)
                    else:
                        told = carried(examples, language, value, other)
                        self.assertEqual(told, right_carried(examples, language, value, other))
                        self.assertTrue(is_keeper(examples, other, told))

    def test_keepers_that_the_bound_refuses(self):
        value = ("keeper", TWICE.places, 0, {key: "a" for key in whole_keys(TWICE, TWICE.places)[::-1]})
        columns = {key: "a" for key in right_columns(TWICE, TWICE.places)}
        self.assertEqual(carried(TWICE, "deep one plain", value, "deep one plain"), value)
        self.assertEqual(carried(TWICE, "deep one plain", value, "flat one plain"), ("keeper", TWICE.places, 0, columns))
        check_error(self, InvalidOperation, carried, TWICE, "deep one plain", value, "deep one unlike")
        check_error(self, InvalidOperation, carried, TWICE, "deep one unlike", value, "deep one plain")

    def test_errors(self):
        wrong = all_wrong(InvalidOperation, lambda value: is_right_paper(ENDS, "deep many plain", value))
        wrong += [(value, InvalidOperation) for value in changed_keepers(TURN) if not is_right_keeper(ENDS, "deep many plain", value)]
        check_errors(self, carried, [
            (ENDS, WRONG_EXAMPLES), ("deep many plain", WRONG), (TURN, wrong), ("flat one plain", WRONG),
        ])
        check_error(self, InvalidExamples, carried, None, "deep", None, "deep")


class ClashesTest(unittest.TestCase):
    def test_all_tuples_of_places(self):
        sizes = set()
        for examples, _ in many_examples(120, 6, most_cases=3):
            for language in LANGUAGES:
                if few_keys(examples, language):
                    right = right_clashes(examples, language)
                    told = clashes(examples, language)
                    self.assertTrue(same(told, right), (told, right))
                    self.assertIs(told == (), is_askable(examples, language))
                    sizes |= {len(lot) for _, _, lot in told}
        self.assertEqual(sizes, {0, 1, 2})

    def test_flat_languages_with_more_places(self):
        sizes = set()
        for examples, _ in many_examples(80, 7, most_values=3, most_cases=2, most_places=5):
            for language in LANGUAGES[:6]:
                right = right_clashes(examples, language)
                self.assertEqual(clashes(examples, language), right)
                sizes |= {len(lot) for _, _, lot in right}
        self.assertTrue({0, 1, 2} <= sizes)

    def test_the_document_says(self):
        self.assertEqual(clashes(REST, "flat one unlike"), ((0, ("a", "a"), (2,)),))
        self.assertEqual(clashes(REST, "deep one unlike"), ((0, ("a", "a"), (0, 1, 2)),))
        self.assertEqual([clashes(REST, "flat one not"), clashes(REST, "deep many unlike")], [(), ()])
        self.assertEqual(clashes(ENDS, "deep many plain"), ((0, ("b",), (0,)), (0, ("b",), (1,))))
        self.assertEqual(clashes(BEGIN, "deep many unlike"), ((1, ("a",), (0,)),))
        self.assertEqual(clashes(EITHER, "flat one not"), ((0, ("c",), (0, 1)),))

    def test_without_places(self):
        none = Examples(2, (POINT, (), None), (POINT, (), (("b", "b"),)))
        for language in LANGUAGES:
            right = ((0, ("a", "a"), ()),) if language in ("flat one plain", "deep one plain") else ()
            self.assertEqual(clashes(none, language), right)
        bare = Examples(0, (PATH, (), ()), (PATH, (), ((),)))
        self.assertEqual(clashes(bare, "flat one not"), ((1, (), ()),))
        self.assertEqual(clashes(bare, "flat many not"), ())

    def test_an_empty_lot_stands_alone(self):
        told = Examples(1, (PATH.with_row("edge", ("a", "a")), (("a",), ("b",)), (("a",), ("b",))))
        for language in ("flat one plain", "deep one plain"):
            self.assertEqual(clashes(told, language), right_clashes(told, language))
            self.assertIn((0, ("a",), ()), clashes(told, language))
        self.assertEqual(clashes(told, "flat many unlike"), right_clashes(told, "flat many unlike"))

    def test_greater_lots_throw_there_too(self):
        for examples, _ in many_examples(40, 8):
            for language in ("flat one plain", "flat one not", "deep one unlike"):
                if few_keys(examples, language):
                    for target, row, lot in clashes(examples, language):
                        for size in range(len(lot), len(examples.places) + 1):
                            for more in itertools.combinations(range(len(examples.places)), size):
                                if set(lot) <= set(more):
                                    places = tuple(examples.places[at] for at in more)
                                    self.assertIn(row, right_thrown(examples, language, places, target))

    def test_eight_places_and_nine(self):
        database = Database(("a", "b", "c"))
        eight = Examples(2, (database, tuple(all_rows("abc", 2)[:8]), (("c", "c"),)))
        nine = Examples(2, (database, tuple(all_rows("abc", 2)), ()))
        for language in LANGUAGES:
            check_error(self, TooMany(8), clashes, nine, language)
            if language in DEEP_ONE:
                check_error(self, TooMany(65536), clashes, eight, language)
            else:
                self.assertEqual(clashes(eight, language), right_clashes(eight, language))

    def test_bound(self):
        for examples in JUST_BEYOND:
            for language in LANGUAGES:
                if len(examples.places) > 8:
                    check_error(self, TooMany(8), clashes, examples, language)
                elif language in DEEP_ONE:
                    check_error(self, TooMany(65536), clashes, examples, language)
                else:
                    self.assertEqual(clashes(examples, language), ())
        for examples in JUST_REACHED:
            for language in LANGUAGES:
                self.assertEqual(clashes(examples, language), ())

    def test_errors(self):
        check_errors(self, clashes, [(ENDS, WRONG_EXAMPLES), ("deep one not", WRONG)])

    def test_examples_stay(self):
        for examples in (ENDS, REST, BEGIN, EITHER):
            before = copy_of(state_of(examples))
            for language in LANGUAGES:
                clashes(examples, language)
                least_languages(examples)
            self.assertTrue(same(state_of(examples), before))


class PaperOfTheLadderTest(unittest.TestCase):
    def test_any_papers(self):
        tip = Query(1, TIP)
        tree = ("choose", "x", (("fine",), ("choose", "y", (
            ("choose", "z", (("broken", TIP.atoms[1]), ("broken", TIP.atoms[2]), ("broken", TIP.atoms[1]))), ("broken", TIP.atoms[0]),
            ("choose", "z", (("broken", TIP.atoms[1]), ("broken", TIP.atoms[2]), ("broken", TIP.atoms[1]))),
        )), ("fine",)))
        self.assertTrue(is_right_tree(TIP, PATH, (("b",),), tree, {}))
        ways = ((0, {"z": "c", "y": "b", "x": "a"}), (0, {"x": "c", "y": "b", "z": "a"}))
        shown = ("query", tip, ways, ((tree,),))
        self.assertTrue(is_right_fitting_paper(ENDS, shown))
        papers = ladder_papers(ENDS)
        for language in ("deep one unlike", "deep many unlike", "deep many not", "deep one not"):
            self.assertIs(is_ladder(ENDS, {**papers, language: shown}), True)
        self.assertIs(is_ladder(ENDS, {**papers, "deep many plain": TURN}), True)
        self.assertIs(is_ladder(ENDS, {**papers, "deep one plain": TURN}), False)
        self.assertIs(is_ladder(BEGIN, papers), False)

    def test_one_case_and_four(self):
        four = Examples(1, *[(database, (), None) for database in (THERE, BACK, THERE, BACK)])
        self.assertEqual(least_languages(four), ("flat one plain",))
        query = Query(1, Rule(("x",), ("in", "to", ("x", "x"))))
        self.assertTrue(is_ladder(four, {**ladder_papers(four), "flat one plain": fitting_paper(four, query)}))

    def test_one_value(self):
        one = Database(("a",), t=Table(1))
        for must, barred, right in (((), (("a",),), 12), ((("a",),), (("a",),), 0), ((("a",),), (), 12), ((), (), 12)):
            examples = Examples(1, (one, must, barred))
            self.assertEqual(len([1 for value in ladder(examples).values() if value]), right)
            self.assertTrue(is_ladder(examples, ladder_papers(examples)))


if __name__ == "__main__":
    unittest.main()
