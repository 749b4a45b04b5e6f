"""The main guarantee over the whole program: [0.17], [0.18], and other names of values [3.1]."""

import itertools
import random
import unittest

from askable.ask.languages import LANGUAGES, is_within
from askable.base.databases import Database
from askable.base.tables import Table, whole_table
from askable.desk.desk import Desk
from askable.give.giving import bases, is_given, is_harmful
from askable.keep.maps import symmetries
from askable.short.lean import lean
from askable.tell.least import can_have, least_tables
from askable.wish.examples import Examples
from askable.wish.ladder import clashes, ladder, ladder_papers
from askable.wish.papers import is_askable, query_of
from oracles import database_of, is_query_of, is_right_paper, many_examples, right_misfits, small_examples
from support import BEGIN, EITHER, PATH, POINT, REST, SPOTS, THERE, all_rows

# Of three rows the most frequent values at each position make a fourth one: a map of three places keeps "unlike".
MOST = Examples(3, (Database(("a", "b")), (("a", "a", "b"), ("a", "b", "a"), ("b", "a", "a")), (("a", "a", "a"),)))
TOP = ("deep one unlike", "deep one not", "deep many unlike", "deep many not")


def renamed_examples(examples, rng):
    """The examples with other values in each database."""
    cases = []
    for database, must, barred in examples:
        mapping = dict(zip(database.domain, rng.sample(("c", "a", "x", "b", "p", "q"), len(database.domain))))
        rows = [tuple(tuple(mapping[value] for value in row) for row in told) for told in (must, barred)]
        cases.append((database.renamed(mapping), *rows))
    return Examples(examples.columns, *cases)


class GuaranteeTest(unittest.TestCase):
    def test_exactly_one_exists(self):
        for examples, _ in many_examples(40, 1):
            told, papers = ladder(examples), ladder_papers(examples)
            for language in LANGUAGES:
                self.assertTrue(is_right_paper(examples, language, papers[language]))
                query = query_of(examples, language, papers[language])
                self.assertIs(told[language], query is not None)
                if query is not None:
                    self.assertTrue(is_query_of(query, language))
                    self.assertEqual(right_misfits(examples, query), [])
                    self.assertEqual(right_misfits(examples, lean(examples, query)), [])
            for language, other in itertools.product(LANGUAGES, repeat=2):
                if is_within(language, other):
                    self.assertTrue(told[other] or not told[language])

    def test_one_database_with_one_value_or_with_three_or_more(self):
        rng = random.Random(2)
        for _ in range(150):
            values = tuple("abcdef"[:rng.choice((1, 3, 3, 3, 4, 5, 6))])
            database = database_of(rng, values, rng.choice(({}, {"one": 1}, {"two": 2}, {"one": 1, "two": 2}, {"none": 0, "two": 2})))
            columns = rng.choice((1, 1, 2))
            rows = all_rows(values, columns)
            must = rng.sample(rows, min(len(rows), rng.randint(0, 2 if len(values) < 4 else 1)))
            barred = [row for row in rows if row not in must and rng.random() < 0.6]
            told = ladder(Examples(columns, (database, tuple(must), tuple(barred))))
            self.assertEqual(len({told[language] for language in TOP}), 1)

    def test_two_values(self):
        rng, seen = random.Random(3), set()
        drawn = [small_examples(rng, most_values=2, most_cases=1, most_places=4) for _ in range(200)]
        for examples in drawn + [MOST, REST]:
            told = ladder(examples)
            if len(examples.cases[0][0].domain) == 2:
                self.assertEqual(told["deep many unlike"], told["deep many not"])
                seen.add(tuple(told[language] for language in TOP))
        # No two of the others always can the same.
        for one, other in itertools.combinations(range(4), 2):
            if (one, other) != (2, 3):
                self.assertTrue(any(row[one] != row[other] for row in seen), (TOP[one], TOP[other]))

    def test_on_several_databases_no_two_languages(self):
        seen = set()
        drawn = [examples for examples, _ in many_examples(300, 4, most_places=3)]
        for examples in drawn + [MOST | MOST, REST | REST]:
            if len(examples) > 1:
                told = ladder(examples)
                seen.add(tuple(told[language] for language in LANGUAGES))
        for one, other in itertools.combinations(range(12), 2):
            self.assertTrue(any(row[one] != row[other] for row in seen), (LANGUAGES[one], LANGUAGES[other]))

    def test_at_a_desk_after_any_edits(self):
        for examples, rng in many_examples(25, 5, most_cases=3):
            desk = Desk(examples.shape)
            for name, (database, must, barred) in zip("abcd", examples):
                rows = [row for row in must + barred if row not in must or row not in barred]
                words = {row: "must" if row in must else "bar" for row in rows}
                desk.apply(("put", name, database))
                desk.apply(("wish", "far", examples.columns)) if name == "a" else desk.undo(many=0)
                desk.apply(*[(words[row], "far", name, row) for row in rng.sample(rows, len(rows))])
            desk.apply(("drop", "a"), ("forget", "far"))
            desk.undo(many=2)
            desk.redo()
            right = desk.examples("far")
            self.assertEqual(right.only(0).cases[0][0], examples.cases[0][0])
            self.assertEqual(desk.ladder("far"), ladder(right))
            for language in LANGUAGES:
                self.assertTrue(is_right_paper(right, language, desk.paper("far", language)))

    def test_other_names_of_values(self):
        for examples, rng in many_examples(60, 6):
            self.assertEqual(ladder(renamed_examples(examples, rng)), ladder(examples))


class NotTrueTest(unittest.TestCase):
    """For each sentence of [0.18], something that shows that it is not true."""

    def test_symmetric_tables_that_need_unlike(self):
        ends = Table(1, ("a",), ("c",))
        for mapping in symmetries(PATH):
            self.assertEqual(ends.mapped({value: mapping[value] for value in ends.domain}), ends)
        self.assertFalse(can_have((PATH,), (ends,), "deep many plain"))
        self.assertTrue(can_have((PATH,), (ends,), "deep many unlike"))

    def test_keepers_of_two_places_are_not_enough(self):
        self.assertEqual({len(lot) for _, _, lot in clashes(REST, "deep one unlike")}, {3})

    def test_what_one_rule_can_for_each_it_cannot_for_both(self):
        for language in ("flat one not", "deep one plain"):
            for row in (("a",), ("b",)):
                self.assertTrue(is_askable(Examples(1, (SPOTS, (row,), None)), language))
            self.assertFalse(is_askable(EITHER, language))

    def test_one_rule_can_do_what_needs_or(self):
        self.assertFalse(is_askable(EITHER, "flat one not"))
        self.assertTrue(is_askable(EITHER, "flat many plain"))
        self.assertTrue(is_askable(EITHER, "deep one unlike"))

    def test_one_rule_without_unlike_and_the_empty_table(self):
        for language in ("flat one plain", "deep one plain"):
            self.assertFalse(can_have((POINT,), (Table(2),), language))
            self.assertEqual(least_tables((POINT,), (Table(2),), language), (Table(2, ("a", "a")),))
            self.assertTrue(can_have((THERE,), (Table(2),), language))

    def test_hidden_variables_help_without_unlike(self):
        begins = (Table(1, ("a",)),)
        self.assertTrue(can_have((THERE,), begins, "deep one plain"))
        self.assertFalse(can_have((THERE,), begins, "flat many plain"))

    def test_one_query_for_each_case_is_none_for_both(self):
        for index in (0, 1):
            self.assertTrue(is_askable(BEGIN.only(index), "deep many unlike"))
        self.assertFalse(is_askable(BEGIN, "deep many unlike"))

    def test_given_tables_that_cannot_be_left_out_beside_not(self):
        database = Database(("a", "b", "c"), p=Table(1, ("a",), ("b",)), q=Table(1, ("b",), ("c",)), r=Table(1, ("b",)))
        self.assertTrue(is_given(database, ("p", "q"), "r", "flat one plain"))
        self.assertTrue(is_harmful(database, ("p", "q"), database["r"], "flat one not"))
        self.assertFalse(is_given(database, ("p", "q"), "r", "flat one not"))
        rest = whole_table(database.domain, 1) - database["r"]
        self.assertTrue(can_have((database,), (rest,), "flat one not"))
        self.assertFalse(can_have((database.without_table("r"),), (rest,), "flat one not"))

    def test_bases_with_other_numbers_of_tables(self):
        # Two tables tell one pair, and from the pair each of them is told again.
        database = Database(("a", "b"), p=Table(1, ("a",)), q=Table(1, ("b",)), pair=Table(2, ("a", "b")))
        self.assertEqual(bases(database, "deep many plain"), (("p", "q"), ("pair",)))

    def test_a_row_more(self):
        self.assertTrue(can_have((SPOTS,), (Table(1, ("a",)),), "flat one plain"))
        more = SPOTS.with_row("p", ("b",))
        self.assertFalse(can_have((more,), (Table(1, ("a",)),), "flat one plain"))


if __name__ == "__main__":
    unittest.main()
