"""Flat rules: [0.1] to [0.6], [0.17], [0.20], [9.1], [9.2], stage 9."""

import itertools
import random
import unittest

from askable.ask.answers import answers
from askable.ask.languages import LANGUAGES, signs_of
from askable.ask.rules import Query, Rule
from askable.base.databases import Database
from askable.base.tables import Table
from askable.errors import InvalidDatabase, InvalidNumber, InvalidOperation, NoQuery, TooMany
from askable.keep.flat import MAX_PLACES, fewest_rules, flat_kinds, flat_rule, joint_sets, leads_flat
from askable.keep.keepers import is_keeper
from askable.wish.examples import Examples
from oracles import (
    SHAPES, database_of, has_keeper, is_query_of, is_right_keeper, many_examples, right_misfits, right_places, right_thrown,
    sign_rows, sign_width, signs_in,
)
from support import (
    BACK, BEGIN, EITHER, ENDS, PATH, POINT, REST, SPOTS, THERE, all_rows, all_wrong_kept, check_error, check_errors, copy_of,
    is_right_number, random_rule, right_answers, same, true_in,
)
from test_examples import WRONG_EXAMPLES, state_of
from test_languages import WRONG
from test_maps import WRONG_DATABASE, some_pairs, wrong_rows

FLAT = [language for language in LANGUAGES if language.startswith("flat")]
MANY = [language for language in FLAT if " many " in language]
DEEP = [(language, InvalidOperation) for language in LANGUAGES if language.startswith("deep")]
SIGNS = ("flat one plain", "flat many unlike", "flat one not")


def atoms_of_rule(rule):
    return {atom if atom[0] != "unlike" else ("unlike", frozenset(atom[1:])) for atom in rule.atoms}


def right_flat_atoms(database, row, head, language):
    """All atoms over the variables of a flat rule that are true with the values of its row [9.1]."""
    mapping = dict(zip(head, row))
    found = set()
    for sign in signs_in(database.shape, language):
        for names in itertools.product(sorted(set(head)), repeat=sign_width(database.shape, sign)):
            atom = ("unlike", *names) if sign == ("unlike",) else (*sign, names)
            if true_in(database, atom, mapping):
                found.add(("unlike", frozenset(names)) if sign == ("unlike",) else atom)
    return found


def leads(first, row, second, other, language):
    """Whether a map from the values of a row alone keeps all rows of the signs over them, and makes the row the other one."""
    mapping = dict(zip(row, other))
    if tuple(mapping[value] for value in row) != other:
        return False
    for sign in signs_in(first.shape, language):
        for told in sign_rows(first, sign):
            if all(value in mapping for value in told):
                if tuple(mapping[value] for value in told) not in sign_rows(second, sign):
                    return False
    return True


def is_joint(examples, language, lot):
    """Whether no keeper of just these places throws to a barred row [9.2]."""
    places = tuple(examples.places[at] for at in lot)
    told = [right_thrown(examples, language, places, target) for target in range(len(examples.cases))]
    return not any(set(rows) & set(case[2]) for rows, case in zip(told, examples.cases))


def right_joint_sets(examples, language):
    """The greatest tuples of joint places, by looking at all tuples."""
    many = len(examples.places)
    lots = [lot for size in range(1, many + 1) for lot in itertools.combinations(range(many), size)]
    joint = [lot for lot in lots if is_joint(examples, language, lot)]
    return tuple(sorted(lot for lot in joint if not any(set(lot) < set(other) for other in joint)))


def fewest_of(joint, many):
    """The least number of tuples in which all places stand, by trying all."""
    for size in range(many + 1):
        for lots in itertools.combinations(joint, size):
            if {at for lot in lots for at in lot} == set(range(many)):
                return size
    return None


def flat_examples(many, seed):
    """Examples with up to five places and few barred rows."""
    rng = random.Random(seed)
    for _ in range(many):
        shape = rng.choice(({"one": 1, "p": 1}, {"one": 1, "two": 2}, {"two": 2}, {"one": 1, "p": 1, "q": 1}, {}))
        columns, left, cases = rng.choice((1, 1, 2)), rng.randint(2, 5), []
        for _ in range(rng.randint(1, 2)):
            database = database_of(rng, tuple("abc"[:rng.randint(2, 3)]), shape, rng.choice((0.3, 0.5)))
            rows = all_rows(database.domain, columns)
            must = rng.sample(rows, min(len(rows), rng.randint(0, left)))
            left -= len(must)
            cases.append((database, tuple(must), tuple(row for row in rows if row not in must and rng.random() < 0.5)))
        yield Examples(columns, *cases), rng


def wide_examples(many, language_rows=()):
    """Examples of one database without tables, with so many places and some barred rows."""
    database = Database(("a", "b", "c"))
    return Examples(2, (database, tuple(all_rows("abc", 2)[:many]), tuple(language_rows)))


class FlatRuleTest(unittest.TestCase):
    def test_atoms(self):
        rng = random.Random(1)
        for _ in range(80):
            database = database_of(rng, tuple("abc"[:rng.randint(1, 3)]), rng.choice(SHAPES))
            for row in rng.sample(all_rows(database.domain, rng.randint(0, 3)), 1):
                for language in FLAT:
                    rule = flat_rule(database, row, language)
                    self.assertIsInstance(rule, Rule)
                    self.assertEqual((len(rule.head), set(rule.variables)), (len(row), set(rule.head)))
                    pairs = set(zip(rule.head, row))
                    self.assertEqual((len(pairs), len(set(rule.head))), (len(set(row)), len(set(row))))
                    self.assertEqual(atoms_of_rule(rule), right_flat_atoms(database, row, rule.head, language))
                    self.assertTrue(is_query_of(Query(len(row), rule), language))
                    self.assertIn(row, right_answers(rule, database))

    def test_the_document_says(self):
        rule = flat_rule(PATH, ("a", "b"), "flat one not")
        x, y = rule.head
        self.assertEqual(atoms_of_rule(rule), {
            ("in", "edge", (x, y)), ("in", "edge", (y, x)), ("out", "edge", (x, x)), ("out", "edge", (y, y)),
            ("unlike", frozenset((x, y))),
        })
        self.assertEqual(flat_rule(PATH, (), "flat one not"), Rule(()))
        full = Database(("a",), t=Table(0, ()), u=Table(0))
        self.assertEqual(flat_rule(full, (), "flat one not"), Rule((), ("in", "t", ()), ("out", "u", ())))
        self.assertEqual(flat_rule(full, (), "flat one unlike"), Rule((), ("in", "t", ())))

    def test_it_is_the_least_rule(self):
        # A rule of the language that has the row has all answers of the flat rule, in each database of the shape.
        rng = random.Random(2)
        shape = {"none": 0, "one": 1, "two": 2, "three": 3}
        tried = 0
        for _ in range(300):
            columns = rng.randint(1, 3)
            rule = random_rule(rng, columns, 3, "xy")
            if rule.hidden:
                continue
            first, second = database_of(rng, tuple("ab"), shape), database_of(rng, tuple("abc"), shape)
            language = "flat one " + Query(columns, rule).language.split(" ")[2]
            for row in right_answers(rule, first):
                least = right_answers(flat_rule(first, row, language), second)
                self.assertTrue(set(least) <= set(right_answers(rule, second)))
                tried += len(least) > 0
        self.assertGreater(tried, 50)

    def test_errors(self):
        language = ("flat one not", WRONG + DEEP)
        check_errors(self, flat_rule, [(THERE, WRONG_DATABASE), (("a", "b"), wrong_rows("ab")), language])
        for value in (("a", "c"), ("c",), ("a",) * 4):
            check_error(self, InvalidOperation, flat_rule, THERE, value, "flat one not")


class LeadsFlatTest(unittest.TestCase):
    def test_leads(self):
        found = {True: 0, False: 0}
        for first, second, rng in some_pairs(60, 3):
            columns = rng.randint(0, 3)
            for row in rng.sample(all_rows(first.domain, columns), min(3, len(first.domain) ** columns)):
                for language in SIGNS:
                    table = answers(Query(columns, flat_rule(first, row, language)), second)
                    for other in all_rows(second.domain, columns):
                        right = leads(first, row, second, other, language)
                        self.assertIs(leads_flat(first, row, second, other, language), right)
                        self.assertIs(other in table, right)
                        found[right] += 1
        self.assertGreater(min(found.values()), 100)

    def test_the_last_word_alone_counts(self):
        for language in FLAT:
            self.assertIs(leads_flat(PATH, ("a", "c"), PATH, ("b", "b"), language), language.endswith("plain"))
            self.assertIs(leads_flat(PATH, ("b", "b"), PATH, ("a", "c"), language), False)
            self.assertIs(leads_flat(THERE, ("a", "b"), BACK, ("b", "a"), language), not language.endswith("not"))

    def test_errors(self):
        row, other = (("a", "b"), wrong_rows("ab")), (("b", "a"), wrong_rows("ab"))
        language = ("flat one not", WRONG + DEEP)
        check_errors(self, leads_flat, [(THERE, WRONG_DATABASE), row, (BACK, WRONG_DATABASE), other, language])
        check_error(self, InvalidOperation, leads_flat, THERE, ("a",), PATH, ("a",), "flat one not")
        check_error(self, InvalidOperation, leads_flat, THERE, ("a",), Database(("a",), to=Table(1)), ("a",), "flat one not")
        for one, two in itertools.permutations(((), ("a",), ("a", "b"), ("a", "b", "b")), 2):
            check_error(self, InvalidOperation, leads_flat, THERE, one, BACK, two, "flat one plain")
        check_error(self, InvalidOperation, leads_flat, THERE, ("a",), PATH, ("c",), "deep one not")
        self.assertIs(leads_flat(SPOTS, ("c",), SPOTS, ("a",), "flat one plain"), True)
        check_error(self, InvalidOperation, leads_flat, THERE, ("a",), BACK, ("c",), "flat one plain")


class FlatKindsTest(unittest.TestCase):
    def test_kinds(self):
        rng = random.Random(4)
        for _ in range(50):
            database = database_of(rng, tuple("cab"[:rng.randint(1, 3)]), rng.choice(SHAPES))
            columns = rng.choice((0, 1, 2, 2, 3))
            rows = all_rows(database.domain, columns)
            for language in SIGNS:
                kinds = []
                for row in rows:
                    like = [kind for kind in kinds if leads(database, row, database, kind[0], language)
                            and leads(database, kind[0], database, row, language)]
                    if like:
                        like[0].append(row)
                    else:
                        kinds.append([row])
                self.assertEqual(flat_kinds(database, columns, language), tuple(tuple(kind) for kind in sorted(kinds)))

    def test_the_document_says(self):
        told = flat_kinds(PATH, 2, "flat many plain")
        self.assertEqual(told[0], (("a", "a"), ("b", "b"), ("c", "c")))
        self.assertEqual(told[2], (("a", "c"), ("c", "a")))
        self.assertEqual(flat_kinds(PATH, 0, "flat one not"), (((),),))
        self.assertEqual(flat_kinds(POINT, 1, "flat one plain"), ((("a",),), (("b",),)))
        self.assertEqual(flat_kinds(Database(tuple("fedcba")), 1, "flat one not"), (tuple((x,) for x in "abcdef"),))
        self.assertEqual([len(kind) for kind in flat_kinds(Database(tuple("abcdef")), 3, "flat one plain")], [6, 30, 30, 30, 120])

    def test_errors(self):
        columns = (1, all_wrong_kept(InvalidNumber, lambda value: is_right_number(value, 3)))
        check_errors(self, flat_kinds, [(THERE, WRONG_DATABASE), columns, ("flat one not", WRONG + DEEP)])
        check_error(self, InvalidNumber(4), flat_kinds, THERE, 4, "deep")
        check_error(self, InvalidDatabase, flat_kinds, None, 4, "deep")


class JointSetsTest(unittest.TestCase):
    def test_all_tuples(self):
        sizes = set()
        for examples, _ in flat_examples(250, 5):
            for language in SIGNS:
                right = right_joint_sets(examples, language)
                self.assertEqual(joint_sets(examples, language), right)
                sizes |= {(len(right), len(lot)) for lot in right}
        self.assertTrue({(1, 1), (1, 2), (2, 1), (2, 2), (1, 3)} <= sizes, sizes)

    def test_some_of_joint_places_are_joint(self):
        for examples, _ in flat_examples(40, 6):
            for language in MANY:
                for lot in joint_sets(examples, language):
                    for size in range(1, len(lot)):
                        for part in itertools.combinations(lot, size):
                            self.assertTrue(is_joint(examples, language, part))

    def test_the_number_of_rules_does_not_count(self):
        for examples, _ in many_examples(30, 7, most_places=3):
            for one, many in zip(FLAT[:3], FLAT[3:]):
                self.assertEqual(joint_sets(examples, one), joint_sets(examples, many))

    def test_a_place_that_is_not_joint_alone(self):
        told = Examples(1, (PATH, (("a",), ("b",)), (("b",),)))
        self.assertEqual([joint_sets(told, language) for language in FLAT], [()] * 6)
        told = Examples(2, (PATH, (("a", "a"), ("a", "b"), ("b", "a")), (("a", "c"), ("c", "c"))))
        self.assertEqual(joint_sets(told, "flat one unlike"), ((1, 2),))

    def test_without_places_and_without_barred_rows(self):
        for language in FLAT:
            self.assertEqual(joint_sets(Examples(1, (PATH, (), None)), language), ())
            self.assertEqual(joint_sets(Examples(1, (PATH, (("a",), ("b",), ("c",)), ())), language), ((0, 1, 2),))

    def test_the_document_says(self):
        self.assertEqual(joint_sets(EITHER, "flat one not"), ((0,), (1,)))
        self.assertEqual(joint_sets(REST, "flat many not"), ((0, 1, 2),))
        self.assertEqual(joint_sets(REST, "flat one plain"), ())
        self.assertEqual(joint_sets(REST, "flat one unlike"), ((0, 1),))

    def test_eight_places_and_nine(self):
        self.assertEqual(MAX_PLACES, 8)
        eight = wide_examples(8, [("c", "c")])
        self.assertEqual(joint_sets(eight, "flat one unlike"), right_joint_sets(eight, "flat one unlike"))
        self.assertEqual(joint_sets(wide_examples(8), "flat one plain"), (tuple(range(8)),))
        for language in FLAT:
            check_error(self, TooMany(8), joint_sets, wide_examples(9), language)
            check_error(self, InvalidOperation, joint_sets, wide_examples(9), language.replace("flat", "deep"))
        two = Examples(2, *[(POINT, tuple(all_rows("ab", 2)), ())] * 2)
        self.assertEqual(joint_sets(two, "flat one not"), (tuple(range(8)),))
        check_error(self, TooMany(8), joint_sets, two | Examples(2, (POINT, (("a", "a"),), ())), "flat one not")

    def test_errors(self):
        check_errors(self, joint_sets, [(ENDS, WRONG_EXAMPLES), ("flat one not", WRONG + DEEP)])


class FewestRulesTest(unittest.TestCase):
    def test_fewest(self):
        counts = set()
        for examples, _ in flat_examples(250, 8):
            for language in MANY:
                if has_keeper(examples, language):
                    with self.assertRaises(NoQuery) as told:
                        fewest_rules(examples, language)
                    self.assertTrue(is_right_keeper(examples, language, told.exception.keeper))
                    self.assertIs(is_keeper(examples, language, told.exception.keeper), True)
                else:
                    query = fewest_rules(examples, language)
                    self.assertEqual(right_misfits(examples, query), [])
                    self.assertTrue(is_query_of(query, language))
                    self.assertEqual(query.columns, examples.columns)
                    right = fewest_of(right_joint_sets(examples, language), len(examples.places))
                    self.assertEqual(len(query), right)
                    counts.add(right)
        self.assertTrue({0, 1, 2} <= counts, counts)

    def test_no_query_has_fewer_rules(self):
        # All flat queries with one rule that can be told apart on these examples.
        database = SPOTS.with_table("r", Table(1, ("c",)))
        examples = Examples(1, (database, (("a",), ("b",)), None))
        self.assertEqual(len(fewest_rules(examples, "flat many plain")), 2)
        self.assertEqual(len(fewest_rules(examples, "flat many not")), 1)
        three = Examples(1, (database, (("a",), ("b",), ("c",)), None))
        self.assertEqual(len(fewest_rules(three, "flat many plain")), 1)
        self.assertEqual(len(fewest_rules(EITHER, "flat many not")), 2)

    def test_lots_that_overlap(self):
        # Fewest tuples are not found by always taking the greatest one.
        values = tuple("abcdef")
        tables = {"p": Table(1, *[(x,) for x in "abd"]), "q": Table(1, *[(x,) for x in "cef"]), "r": Table(1, *[(x,) for x in "bcde"])}
        examples = Examples(1, (Database.of(values, {**tables, "s": Table(1)}), tuple((x,) for x in values), None))
        self.assertEqual(len(fewest_rules(examples, "flat many plain")), 1)
        one = Database(("z",), **{name: Table(1) for name in "pqrs"})
        told = examples | Examples(1, (one, (), None))
        self.assertEqual(joint_sets(told, "flat many plain"), ((0, 1, 3), (1, 2, 3, 4), (2, 4, 5)))
        query = fewest_rules(told, "flat many plain")
        self.assertEqual((len(query), right_misfits(told, query)), (2, []))

    def test_without_places(self):
        for language in MANY:
            self.assertEqual(fewest_rules(Examples(2, (PATH, (), None)), language), Query(2))

    def test_errors(self):
        ones = [(language, InvalidOperation) for language in FLAT if " one " in language]
        check_errors(self, fewest_rules, [(EITHER, WRONG_EXAMPLES), ("flat many not", WRONG + DEEP + ones)])

    def test_no_query_comes_ahead_of_too_many(self):
        for barred in ((), (("a", "b"),)):
            nine = wide_examples(9, barred)
            if barred:
                with self.assertRaises(NoQuery) as told:
                    fewest_rules(nine, "flat many unlike")
                self.assertTrue(is_right_keeper(nine, "flat many unlike", told.exception.keeper))
            else:
                check_error(self, TooMany(8), fewest_rules, nine, "flat many unlike")
            check_error(self, InvalidOperation, fewest_rules, nine, "flat one unlike")
        self.assertEqual(len(fewest_rules(wide_examples(8), "flat many unlike")), 1)
        eight = wide_examples(8, [("c", "c")])
        with self.assertRaises(NoQuery):
            fewest_rules(eight, "flat many unlike")
        two = Examples(1, *[(SPOTS, (("a",), ("b",)), None)] * 4)
        self.assertEqual(len(fewest_rules(two, "flat many plain")), 2)

    def test_examples_stay(self):
        for examples in (ENDS, REST, BEGIN, EITHER):
            before = copy_of(state_of(examples))
            for language in MANY:
                joint_sets(examples, language)
                try:
                    fewest_rules(examples, language)
                except NoQuery as error:
                    error.keeper[3].clear()
            self.assertTrue(same(state_of(examples), before))
            self.assertEqual(examples.places, right_places(examples))
            self.assertEqual(list(signs_of(examples.cases[0][0], "flat one not")), signs_in(examples.shape, "flat one not"))


if __name__ == "__main__":
    unittest.main()
