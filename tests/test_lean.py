"""Lean queries: [0.1] to [0.6], [0.20], [0.21], [14.1], stage 14."""

import itertools
import random
import unittest

from askable.ask.rules import Query, Rule
from askable.ask.answers import answers
from askable.ask.languages import LANGUAGES
from askable.base.databases import Database
from askable.base.tables import Table
from askable.errors import InvalidExamples, InvalidOperation, InvalidQuery, NoQuery, TooMany, UnknownName
from askable.short.lean import is_lean, lean, needed_atoms, needed_rules, shortest
from askable.wish.examples import Examples
from askable.wish.papers import query_for
from oracles import database_of, many_examples, right_misfits
from support import (
    BEGIN, ENDS, NOWHERE, PATH, POINT, REST, TIP, all_rows, check_error, check_errors, random_rule, right_answers,
)
from test_examples import WRONG_EXAMPLES, WRONG_QUERY, state_of
from test_papers import SHAPE, fitting_cases

CALLS = (is_lean, lean, needed_atoms, needed_rules, shortest)
EXTRA = TIP.with_atom(("in", "edge", ("y", "x")))
# Sixteen variables: just at the bound with two values, beyond it with three.
LONG = Query(0, Rule((), *[("unlike", first, second) for first, second in zip("abcdefghijklmno", "bcdefghijklmnop")]))


def fits(examples, query):
    return right_misfits(examples, query) == []


def without_atom(query, index, atom):
    rules = [rule.without_atom(atom) if at == index else rule for at, rule in enumerate(query.rules)]
    return Query(query.columns, *rules)


def right_needed_atoms(examples, query):
    """The atoms without which, alone, the query does not fit, by leaving out each of them."""
    told = [(index, atom) for index, rule in enumerate(query.rules) for atom in rule.atoms]
    return tuple((index, atom) for index, atom in told if not fits(examples, without_atom(query, index, atom)))


def right_needed_rules(examples, query):
    return tuple(index for index in range(len(query)) if not fits(examples, query.without(index)))


def is_right_lean(examples, query):
    many = sum(len(rule) for rule in query)
    return len(right_needed_atoms(examples, query)) == many and len(right_needed_rules(examples, query)) == len(query)


def size_of_query(query):
    return len(query) + sum(len(rule) for rule in query)


def all_that_come(query):
    """All queries that come from a query [14.1]."""
    choices = []
    for rule in query.rules:
        told = [None]
        for size in range(len(rule) + 1):
            told += [Rule(rule.head, *atoms) for atoms in itertools.combinations(rule.atoms, size)]
        choices.append(told)
    for chosen in itertools.product(*choices):
        yield Query(query.columns, *[rule for rule in chosen if rule is not None])


def comes_from(query, other):
    """Whether the first query comes from the other one: its rules from different ones, or from equal parts of several."""
    def matched(rules, left):
        if not rules:
            return True
        for at, one in enumerate(left):
            if rules[0].head == one.head and set(rules[0].atoms) <= set(one.atoms):
                if matched(rules[1:], left[:at] + left[at + 1:]):
                    return True
        return False

    return query.columns == other.columns and matched(list(query.rules), list(other.rules))


def longer_cases(many, seed):
    """Queries with examples that they fit, of which much can be left out."""
    for examples, query, rng in fitting_cases(many, seed, 2, "xyz"):
        rules = []
        for rule in query.rules:
            for _ in range(rng.randint(0, 2)):
                more = random_rule(rng, 0, 1, "xyz").atoms
                longer = Rule(rule.head, *rule.atoms, *more)
                rules.append(longer)
            rules.append(rule)
        longer = Query(query.columns, *rules)
        if fits(examples, longer):
            yield examples, longer, rng


class NeededTest(unittest.TestCase):
    def test_by_leaving_out_each_alone(self):
        for examples, query, _ in longer_cases(120, 1):
            state = state_of(examples), query.rules
            atoms, rules = needed_atoms(examples, query), needed_rules(examples, query)
            self.assertIsInstance(atoms, tuple)
            self.assertIsInstance(rules, tuple)
            self.assertEqual(atoms, right_needed_atoms(examples, query))
            self.assertEqual(rules, right_needed_rules(examples, query))
            self.assertIs(is_lean(examples, query), is_right_lean(examples, query))
            self.assertEqual((state_of(examples), query.rules), state)

    def test_the_document_says(self):
        self.assertEqual(needed_atoms(ENDS, Query(1, EXTRA)), ((0, ("in", "edge", ("y", "z"))), (0, ("unlike", "x", "z"))))
        self.assertEqual(needed_rules(ENDS, Query(1, EXTRA)), (0,))
        self.assertIs(is_lean(ENDS, Query(1, EXTRA)), False)
        self.assertIs(is_lean(ENDS, Query(1, TIP)), True)

    def test_rules_that_become_equal(self):
        # Without one of its atoms the first rule is the second one: then the query is this one alone.
        first, second = Rule(("x",), ("in", "p", ("x",)), ("in", "q", ("x",))), Rule(("x",), ("in", "p", ("x",)))
        database = Database(("a", "b"), p=Table(1, ("a",)), q=Table(1, ("a",), ("b",)))
        examples = Examples(1, (database, (("a",),), None))
        query = Query(1, first, second)
        self.assertEqual(query.rules, (second, first))
        self.assertEqual(needed_atoms(examples, query), ((0, ("in", "p", ("x",))), (1, ("in", "p", ("x",)))))
        self.assertEqual(needed_rules(examples, query), ())
        self.assertIs(is_lean(examples, query), False)
        self.assertEqual(lean(examples, query), Query(1, second))
        self.assertEqual(shortest(examples, query), Query(1, second))

    def test_atoms_that_lack_variables_then(self):
        database = Database(("a", "b"), t=Table(0, ()), e=Table(2))
        examples = Examples(1, (database, (), (("a",),)))
        query = Query(1, Rule(("x",), ("in", "e", ("y", "z")), ("in", "t", ())))
        self.assertEqual(needed_atoms(examples, query), ((0, ("in", "e", ("y", "z"))),))
        self.assertEqual(needed_rules(examples, query), ())
        self.assertEqual(lean(examples, query), Query(1))
        wanted = Examples(1, (database.with_row("e", ("a", "b")), (("a",),), ()), (database, (), (("a",),)))
        self.assertEqual(lean(wanted, query), Query(1, Rule(("x",), ("in", "e", ("y", "z")))))

    def test_queries_without_rules(self):
        for examples in (Examples(2, (PATH, (), None)), Examples(0, (POINT, (), ()), (POINT, (), ((),)))):
            query = Query(examples.columns)
            self.assertEqual([call(examples, query) for call in CALLS], [True, query, (), (), query])
        for examples in (ENDS, REST, BEGIN):
            for call in CALLS:
                check_error(self, InvalidOperation, call, examples, Query(examples.columns))

    def test_rules_without_atoms(self):
        whole = Examples(1, (PATH, (("a",), ("b",)), ()))
        query = Query(1, Rule(("x",)))
        self.assertEqual([call(whole, query) for call in CALLS], [True, query, (), (0,), query])
        self.assertEqual(lean(whole, query | Query(1, TIP)), query)
        loose = Examples(1, (PATH, (), ()))
        self.assertEqual([call(loose, query) for call in CALLS], [False, Query(1), (), (), Query(1)])


class LeanTest(unittest.TestCase):
    def test_lean_queries(self):
        for examples, query, _ in longer_cases(150, 2):
            told = lean(examples, query)
            self.assertIsInstance(told, Query)
            self.assertTrue(fits(examples, told))
            self.assertTrue(is_right_lean(examples, told))
            self.assertTrue(comes_from(told, query))
            self.assertIs(is_lean(examples, told), True)

    def test_queries_of_the_package(self):
        for examples, rng in many_examples(60, 3, most_values=2):
            for language in rng.sample(LANGUAGES, 4):
                try:
                    query = query_for(examples, language)
                except NoQuery:
                    continue
                told = lean(examples, query)
                self.assertTrue(comes_from(told, query))
                self.assertTrue(fits(examples, told))
                self.assertTrue(is_right_lean(examples, told))

    def test_no_query_between_fits(self):
        # Lean queries need not be the shortest ones, but nothing fits that lacks one more part.
        for examples, query, _ in longer_cases(60, 4):
            told = lean(examples, query)
            for index, rule in enumerate(told.rules):
                self.assertFalse(fits(examples, told.without(index)))
                for atom in rule.atoms:
                    self.assertFalse(fits(examples, without_atom(told, index, atom)))


class ShortestTest(unittest.TestCase):
    def test_by_all_that_come(self):
        tried = 0
        for examples, query, _ in longer_cases(200, 5):
            if size_of_query(query) > 9:
                continue
            tried += 1
            told = shortest(examples, query)
            right = min(size_of_query(one) for one in all_that_come(query) if fits(examples, one))
            self.assertEqual(size_of_query(told), right)
            self.assertTrue(fits(examples, told))
            self.assertTrue(comes_from(told, query))
            self.assertTrue(is_right_lean(examples, told))
        self.assertGreater(tried, 60)

    def test_shorter_than_lean(self):
        # One atom of the first rule, or two others: what is left out first must not matter.
        rng = random.Random(6)
        for _ in range(60):
            database = database_of(rng, tuple("ab"), SHAPE)
            told = [random_rule(rng, 1, 3, "xy") for _ in range(2)]
            rules = [Rule(("x",), *rule.atoms) for rule in told]
            query = Query(1, *rules)
            rows = {row for rule in query for row in right_answers(rule, database)}
            examples = Examples(1, (database, tuple(rows), tuple(row for row in all_rows("ab", 1) if row not in rows)))
            right = min(size_of_query(one) for one in all_that_come(query) if fits(examples, one))
            self.assertEqual(size_of_query(shortest(examples, query)), right)

    def test_rules_count_like_atoms(self):
        # One rule with four atoms does what two rules with one atom each do: five parts or four.
        first, second, head = ("a", "a", "a"), ("b", "b", "b"), ("x", "y", "z")
        pairs = [tuple(pair) for pair in ("aa", "bb", "cc", "ab", "bd", "ef", "af", "ac")]
        database = Database(
            tuple("abcdef"), a=Table(1, ("a",), ("b",), ("e",)), b=Table(2, *pairs), s=Table(3, first), t=Table(3, second),
        )
        barred = tuple(tuple(row) for row in ("ccc", "abd", "aef", "abc"))
        examples = Examples(3, (database, (first, second), barred))
        long = Rule(head, ("in", "a", ("x",)), *[("in", "b", pair) for pair in (("x", "y"), ("y", "z"), ("x", "z"))])
        short = [Rule(head, ("in", "s", head)), Rule(head, ("in", "t", head))]
        query = Query(3, long, *short)
        self.assertEqual(len(needed_atoms(examples, Query(3, long))), 4)
        self.assertEqual(shortest(examples, query), Query(3, *short))
        self.assertEqual(shortest(examples, Query(3, long)), Query(3, long))

    def test_ten_rules_and_atoms(self):
        values = tuple("abcdef")
        names = "stuv"
        database = Database(values, **{name: Table(1, (value,)) for name, value in zip(names, values)})
        rules = [Rule(("x",), ("in", name, ("x",))) for name in names]
        must = tuple((value,) for value in values[:4])
        examples = Examples(1, (database, must, None))
        ten = Query(1, *rules[:3], Rule(("x",), ("in", "v", ("x",)), ("out", "t", ("x",)), ("out", "s", ("x",))))
        self.assertEqual(size_of_query(ten), 10)
        self.assertEqual(shortest(examples, ten), Query(1, *rules))
        eleven = Query(1, *[rule.with_atom(("out", "u", ("x",))) if rule == ten[0] else rule for rule in ten])
        self.assertEqual(size_of_query(eleven), 11)
        check_error(self, TooMany(10), shortest, examples, eleven)
        self.assertEqual(lean(examples, eleven), Query(1, *rules))
        check_error(self, InvalidOperation, shortest, examples.turned(), eleven)
        many = Query(0, *[Rule((), ("in", "s", (name,))) for name in "abcde"])
        self.assertEqual(shortest(Examples(0, (database, ((),), ())), many), Query(0, Rule(())))


class ErrorsTest(unittest.TestCase):
    def test_errors(self):
        for call in CALLS:
            check_errors(self, call, [(ENDS, WRONG_EXAMPLES), (Query(1, TIP), WRONG_QUERY)])
            check_error(self, InvalidExamples, call, None, None)
            check_error(self, InvalidQuery, call, ENDS, None)
            check_error(self, InvalidOperation, call, ENDS, NOWHERE)
            check_error(self, UnknownName("edge"), call, BEGIN, Query(1, TIP))
            check_error(self, UnknownName("no"), call, REST, NOWHERE | Query(2, Rule(("x", "y"), ("in", "no", ()))))
            check_error(self, InvalidOperation, call, ENDS, Query(1, Rule(("x",), ("in", "edge", ("x",)))))
            check_error(self, InvalidOperation, call, ENDS, Query(1, Rule(("x",))))
            check_error(self, InvalidOperation, call, ENDS.turned(), Query(1, TIP))

    def test_bound(self):
        two, three = Database(("a", "b")), Database(("a", "b", "c"))
        for call in CALLS:
            check_error(self, TooMany(65536), call, Examples(0, (three, ((),), ())), LONG)
            check_error(self, TooMany(65536), call, Examples(0, (two, (), ()), (three, (), ((),))), LONG)
            # The bound comes ahead of a query that does not fit, and of too many rules and atoms.
            check_error(self, InvalidOperation, call, Examples(0, (two, (), ((),))), LONG)
        examples = Examples(0, (two, ((),), ()), (Database(("a",)), (), ((),)))
        self.assertEqual(answers(LONG, two), Table(0, ()))
        self.assertIs(is_lean(examples, LONG), False)
        self.assertEqual([len(rule) for rule in lean(examples, LONG)], [1])
        self.assertEqual(needed_atoms(examples, LONG), ())
        self.assertEqual(needed_rules(examples, LONG), (0,))
        check_error(self, TooMany(10), shortest, examples, LONG)


if __name__ == "__main__":
    unittest.main()
