"""Examples: [0.1] to [0.5], [0.12], [0.13], [0.20], [0.21], stage 6."""

import itertools
import random
import unittest

from askable.ask.rules import Query, Rule
from askable.base.databases import Database
from askable.base.tables import Table
from askable.errors import (
    InvalidExamples, InvalidNumber, InvalidOperation, InvalidQuery, TooMany, UnknownName,
)
from askable.wish.examples import MAX_CASES, Examples, first_misfit
from oracles import database_of, many_examples, right_misfits, right_places
from support import (
    BACK, BEGIN, EITHER, ENDS, EVERY_KIND, NOWHERE, PATH, POINT, REST, SPOTS, THERE, TIP, all_rows, all_wrong, all_wrong_kept,
    check_error, check_errors, is_right_number, is_right_row, random_rule, same, show, values_without, wrong_objects,
)

TWO = (("b", "b"), ("a", "b"), ("b", "b"))
WRONG_QUERY = wrong_objects(InvalidQuery, Query)
WRONG_EXAMPLES = wrong_objects(InvalidExamples, Examples)


def state_of(examples):
    """All that examples tell of themselves."""
    return examples.columns, examples.cases, examples.shape, examples.places, len(examples), str(examples)


def are_right_rows(value, columns, values):
    return isinstance(value, tuple) and all(is_right_row(row, columns, values) for row in value)


def is_right_case(value, columns):
    if not isinstance(value, tuple) or len(value) != 3 or not isinstance(value[0], Database):
        return False
    values = value[0].domain
    return are_right_rows(value[1], columns, values) and (value[2] is None or are_right_rows(value[2], columns, values))


class ExamplesTest(unittest.TestCase):
    def test_parts(self):
        self.assertEqual(MAX_CASES, 4)
        told = Examples(2, (POINT, TWO, (("b", "a"), ("a", "a"), ("b", "a"))))
        self.assertEqual(told.columns, 2)
        self.assertEqual(told.cases, ((POINT, (("a", "b"), ("b", "b")), (("a", "a"), ("b", "a"))),))
        self.assertEqual(told.shape, {"at": 2})
        self.assertEqual(told.places, ((0, ("a", "b")), (0, ("b", "b"))))
        self.assertEqual((len(told), str(told), list(told)), (1, "examples of 1 cases, 2 rows that must", list(told.cases)))

    def test_none_for_barred(self):
        for columns in range(4):
            rows = all_rows("ab", columns)
            for must in ((), (rows[0],), tuple(rows[::-2]), tuple(rows + rows)):
                rest = tuple(row for row in rows if row not in must)
                self.assertEqual(Examples(columns, (POINT, must, None)).cases, ((POINT, tuple(sorted(set(must))), rest),))
                self.assertEqual(Examples(columns, (POINT, must, None)), Examples(columns, (POINT, must, rest)))

    def test_several_cases(self):
        told = Examples(1, (BACK, (("b",), ("a",)), ()), (THERE, (), None), (BACK, (("b",),), (("b",),)), (BACK, (), ()))
        self.assertEqual([case[0] for case in told], [BACK, THERE, BACK, BACK])
        self.assertEqual(told.places, ((0, ("a",)), (0, ("b",)), (2, ("b",))))
        self.assertEqual((len(told), str(told)), (4, "examples of 4 cases, 3 rows that must"))
        self.assertEqual(told.cases[1][2], (("a",), ("b",)))
        self.assertEqual(str(BEGIN), "examples of 2 cases, 1 rows that must")

    def test_one_value_and_no_tables(self):
        one = Database(("a",))
        told = Examples(0, (one, ((),), None), (Database(("a", "b")), (), None))
        self.assertEqual([told.cases[0][1:], told.cases[1][1:]], [(((),), ()), ((), ((),))])
        self.assertEqual((told.shape, told.places), ({}, ((0, ()),)))
        told = Examples(3, (one, (("a", "a", "a"),), None))
        self.assertEqual(told.cases[0][1:], ((("a", "a", "a"),), ()))

    def test_of_is_the_class(self):
        for told in (ENDS, REST, BEGIN, EITHER):
            self.assertEqual(Examples.of(told.columns, told.cases), told)
            self.assertEqual(state_of(Examples.of(told.columns, told.cases)), state_of(told))

    def test_errors(self):
        right = (POINT, (("a",),), None)
        for value, error in all_wrong_kept(InvalidNumber, lambda value: is_right_number(value, 3)):
            check_error(self, error, Examples, value, right)
            check_error(self, error, Examples, value)
            check_error(self, error, Examples.of, value, (right,))
            check_error(self, error, Examples.of, value, None)
        for value in values_without(lambda value: is_right_case(value, 1)):
            check_error(self, InvalidExamples, Examples, 1, value)
            check_error(self, InvalidExamples, Examples, 1, right, value)
            check_error(self, InvalidExamples, Examples.of, 1, (value, right))
        for value in values_without(lambda value: isinstance(value, tuple) and 1 <= len(value) <= 4):
            check_error(self, InvalidExamples, Examples.of, 1, value)
        check_error(self, InvalidExamples, Examples, 1)
        check_error(self, InvalidExamples, Examples.of, 1, [right])
        check_error(self, InvalidExamples, Examples, 1, *[right] * 5)
        self.assertEqual(len(Examples(1, *[right] * 4)), 4)

    def test_errors_of_rows(self):
        for value in values_without(lambda value: are_right_rows(value, 1, "ab")):
            check_error(self, InvalidExamples, Examples, 1, (POINT, value, ()))
            if value is not None:
                check_error(self, InvalidExamples, Examples, 1, (POINT, (), value))
        for rows in ((("a", "b"),), (("c",),), [("a",)], (["a"],), ((),), (("a",), ("A",))):
            check_error(self, InvalidExamples, Examples, 1, (POINT, rows, None))
            check_error(self, InvalidExamples, Examples, 1, (POINT, (), rows))
        for case in ((POINT, ()), (POINT, (), (), ()), [POINT, (), ()], (None, (), ()), ((), (), POINT)):
            check_error(self, InvalidExamples, Examples, 1, case)

    def test_errors_of_shapes(self):
        shapes = (POINT, THERE, PATH, Database(("a",)), Database(("a",), at=Table(1)), SPOTS)
        for one, other in itertools.permutations(shapes, 2):
            check_error(self, InvalidExamples, Examples, 0, (one, (), ()), (other, (), ()))
            check_error(self, InvalidExamples, Examples, 0, (one, (), ()), (one, (), ()), (other, (), ()))

    def test_equal(self):
        told = Examples(2, (POINT, TWO, ()))
        self.assertTrue(told == Examples(2, (POINT, TWO[1:], ())))
        self.assertFalse(told != Examples(2, (POINT, TWO[1:], ())))
        case = (THERE, (), ())
        others = [
            Examples(2, (POINT, TWO[:1], ())), Examples(2, (POINT, TWO, (("a", "a"),))), Examples(2, (POINT, TWO, ()), (POINT, (), ())),
            Examples(2, (POINT.with_value("c"), TWO, ())), ENDS, REST,
        ]
        for other in others:
            self.assertFalse(told == other)
            self.assertTrue(told != other)
        self.assertFalse(Examples(1, case) == Examples(2, case))
        self.assertFalse(Examples(1, case, (BACK, (), ())) == Examples(1, (BACK, (), ()), case))
        for value in values_without(lambda value: isinstance(value, Examples)):
            self.assertIs(told == value, False, show(value))
            self.assertIs(told != value, True)


class OtherRowsTest(unittest.TestCase):
    def test_with_and_without(self):
        for examples, _ in many_examples(40, 1):
            before = state_of(examples)
            for index, (database, must, barred) in enumerate(examples.cases):
                for row in all_rows(database.domain, examples.columns):
                    more, less = tuple(sorted(set(must) | {row})), tuple(sorted(set(must) - {row}))
                    self.check(examples, index, examples.with_must(index, row), (database, more, barred))
                    if row in must:
                        self.assertEqual(examples.with_must(index, row), examples)
                        self.check(examples, index, examples.without_must(index, row), (database, less, barred))
                    else:
                        check_error(self, InvalidOperation, examples.without_must, index, row)
                    more, less = tuple(sorted(set(barred) | {row})), tuple(sorted(set(barred) - {row}))
                    self.check(examples, index, examples.with_barred(index, row), (database, must, more))
                    if row in barred:
                        self.assertEqual(examples.with_barred(index, row), examples)
                        self.check(examples, index, examples.without_barred(index, row), (database, must, less))
                    else:
                        check_error(self, InvalidOperation, examples.without_barred, index, row)
            self.assertEqual(state_of(examples), before)

    def check(self, examples, index, told, case):
        right = [case if at == index else one for at, one in enumerate(examples.cases)]
        self.assertEqual((told.columns, list(told.cases)), (examples.columns, right))
        self.assertEqual(told.places, right_places(told))

    def test_errors(self):
        told = Examples(1, (THERE, (("a",),), (("a",),)), (BACK.with_value("c"), (("a",),), (("a",),)))
        index = (1, all_wrong_kept(InvalidNumber, lambda value: is_right_number(value, 1)))
        for call in (told.with_must, told.with_barred):
            check_errors(self, call, [index, (("c",), all_wrong(InvalidOperation, lambda value: is_right_row(value, 1, "abc")))])
            check_error(self, InvalidOperation, call, 0, ("c",))
        for call in (told.without_must, told.without_barred):
            check_errors(self, call, [index, (("a",), all_wrong(InvalidOperation, lambda value: value == ("a",)))])
            check_error(self, InvalidOperation, call, 1, ("b",))

    def test_turned(self):
        for examples, _ in many_examples(30, 2):
            told = examples.turned()
            self.assertEqual(list(told.cases), [(database, barred, must) for database, must, barred in examples.cases])
            self.assertEqual((told.columns, told.places), (examples.columns, right_places(told)))
            self.assertEqual(told.turned(), examples)


class OtherCasesTest(unittest.TestCase):
    def test_only(self):
        told = Examples(1, (BACK, (("a",),), ()), (THERE, (), None), (BACK, (), ()))
        for many in range(1, 5):
            for indices in itertools.product(range(3), repeat=many):
                self.assertEqual(list(told.only(*indices)), [told.cases[index] for index in indices])
                self.assertEqual(told.only(*indices).places, right_places(told.only(*indices)))
        for value, error in all_wrong_kept(InvalidNumber, lambda value: is_right_number(value, 2)):
            check_error(self, error, told.only, value)
            check_error(self, error, told.only, 0, value, 7)
            check_error(self, error, told.only, 0, 0, 0, 0, 0, value)
        check_error(self, InvalidExamples, told.only)
        check_error(self, InvalidExamples, told.only, 0, 1, 2, 0, 1)

    def test_or(self):
        one, other = Examples(1, (BACK, (("a",),), ())), Examples(1, (THERE, (), None), (BACK, (), ()))
        self.assertEqual((one | other).cases, one.cases + other.cases)
        self.assertEqual((other | one).cases, other.cases + one.cases)
        self.assertEqual((other | one).places, ((2, ("a",)),))
        self.assertEqual((ENDS | ENDS).only(1), ENDS)
        self.assertEqual(len(other | other), 4)

        def both(first, second):
            return first | second

        check_error(self, InvalidExamples, both, other, other | one)
        for value in values_without(lambda value: isinstance(value, Examples) and value.columns == 1 and value.shape == {"to": 2}):
            check_error(self, InvalidOperation, both, one, value)
        for value in (ENDS, REST, Examples(2, (BACK, (), ())), Examples(0, (BACK, (), ())), Examples(1, (Database(("a",)), (), ()))):
            check_error(self, InvalidOperation, both, one, value)
            check_error(self, InvalidOperation, both, other | other, value)


class FitTest(unittest.TestCase):
    def test_fit_and_misfit(self):
        shape = {"none": 0, "one": 1, "two": 2, "three": 3}
        rng = random.Random(5)
        for at in range(300):
            columns = rng.randint(0, 3)
            cases = []
            for _ in range(rng.randint(1, 3)):
                database = database_of(rng, tuple("abc"[:rng.randint(1, 3)]), shape)
                rows = all_rows(database.domain, columns)
                cases.append((database, rows, rng.random()))
            query = Query(columns, *[random_rule(rng, columns, 3) for _ in range(rng.choice((0, 1, 1, 2)))])
            kept = []
            for index, (database, rows, share) in enumerate(cases):
                right = [row for row in rows if not right_misfits(Examples(columns, (database, (row,), ())), query)]
                wrong = [row for row in rows if row not in right]
                must = [row for row in right if rng.random() < share]
                barred = [row for row in wrong if rng.random() < share]
                if at % 2 and rng.random() < 0.3:
                    must += rng.sample(wrong, min(1, len(wrong)))
                if at % 2 and rng.random() < 0.3:
                    barred += rng.sample(right, min(1, len(right)))
                kept.append((database, tuple(must), tuple(barred)))
            examples = Examples(columns, *kept)
            misfits = right_misfits(examples, query)
            self.assertIs(examples(query), not misfits)
            self.assertTrue(same(first_misfit(examples, query), misfits[0] if misfits else None))

    def test_the_first_misfit(self):
        rows = (("a",), ("b",))
        examples = Examples(1, (THERE, (), ()), (BACK, rows, rows), (BACK, rows, rows))
        self.assertEqual(first_misfit(examples, Query(1)), (1, ("a",), True))
        self.assertEqual(first_misfit(examples, Query(1, Rule(("x",)))), (1, ("a",), False))
        half = Query(1, Rule(("x",), ("in", "to", ("x", "y")), ("unlike", "x", "y")))
        self.assertEqual(first_misfit(Examples(1, (THERE, (("a",),), (("a",), ("b",)))), half), (0, ("a",), False))
        self.assertEqual(first_misfit(Examples(1, (THERE, rows, (("a",),))), half), (0, ("b",), True))
        self.assertEqual(first_misfit(Examples(1, (THERE, (), ()), (THERE, (), rows)), half), (1, ("a",), False))
        self.assertIs(first_misfit(Examples(1, (THERE, (), ())), half), None)

    def test_rows_that_must_and_are_barred(self):
        both = Examples(1, (PATH, (("b",),), (("b",),)))
        for query in (Query(1), Query(1, TIP), Query(1, Rule(("x",)))):
            self.assertIs(both(query), False)

    def test_without_rows(self):
        self.assertIs(Examples(1, (PATH, (), ()))(Query(1)), True)
        self.assertIs(Examples(1, (PATH, (), None))(Query(1)), True)
        self.assertIs(Examples(1, (PATH, (), None))(Query(1, TIP)), False)
        self.assertIs(ENDS(Query(1, TIP)), True)
        self.assertIs(REST(NOWHERE), True)

    def test_errors(self):
        def call(examples, query):
            return examples(query)

        far = Query(1, TIP, Rule(("x",), ("in", "none", ("x",)), ("out", "far", ())))
        narrow = Query(1, Rule(("x",), ("in", "edge", ("x",))))
        for ask in (call, first_misfit):
            for value, error in WRONG_QUERY:
                check_error(self, error, ask, ENDS, value)
            for columns in (0, 2, 3):
                check_error(self, InvalidOperation, ask, ENDS, Query(columns))
            check_error(self, InvalidOperation, ask, ENDS, Query(0, Rule((), ("in", "far", ()))))
            check_error(self, UnknownName("far"), ask, ENDS, far)
            check_error(self, InvalidOperation, ask, ENDS, narrow)
            check_error(self, UnknownName("zzz"), ask, ENDS, narrow | Query(1, Rule(("x",), ("in", "zzz", ()))))
        check_errors(self, first_misfit, [(ENDS, WRONG_EXAMPLES), (Query(1), WRONG_QUERY)])

    def test_bound(self):
        names = "abcdefghijklmnop"
        long = {many: Rule((), *[("in", "t", (name,)) for name in names[:many]]) for many in range(17)}
        for most, many in ((1, 16), (2, 16), (3, 10), (4, 8), (5, 6), (6, 6)):
            great = (Database(tuple("abcdef"[:most]), t=Table(1, ("a",))), ((),), ())
            small = (Database(("a",), t=Table(1, ("a",))), ((),), ())
            self.assertIs(Examples(0, small, great)(Query(0, long[many])), True)
            if many < 16:
                for cases in ((small, great), (great, small), (great,)):
                    for query in (Query(0, long[many + 1]), Query(0, Rule(()), long[many + 1])):
                        check_error(self, TooMany(65536), Examples(0, *cases), query)
                        check_error(self, TooMany(65536), first_misfit, Examples(0, *cases), query)
                check_error(self, UnknownName("u"), Examples(0, great), Query(0, long[many + 1].with_atom(("in", "u", ()))))
        self.assertIs(Examples(0, small)(Query(0, long[16])), True)

    def test_the_examples_stay(self):
        before = state_of(ENDS)
        ENDS(Query(1, TIP))
        first_misfit(ENDS, Query(1))
        self.assertEqual(state_of(ENDS), before)


class StateTest(unittest.TestCase):
    def test_what_is_returned_can_be_changed(self):
        told = Examples(1, (THERE, (("a",),), ()))
        told.shape["more"] = 1
        told.shape.clear()
        self.assertEqual(told.shape, {"to": 2})
        for name in ("columns", "cases", "shape", "places"):
            with self.assertRaises(AttributeError):
                setattr(told, name, 1)

    def test_calls_that_raise_change_nothing(self):
        before = state_of(REST)
        for call in (lambda: REST.only(), lambda: REST.with_must(0, ("z",)), lambda: REST.without_barred(0, ("b", "b")),
                     lambda: REST | ENDS, lambda: REST(1), lambda: REST.only(3)):
            with self.assertRaises(Exception):
                call()
        self.assertEqual(state_of(REST), before)

    def test_places(self):
        for examples, _ in many_examples(40, 6, most_places=4):
            self.assertEqual(examples.places, right_places(examples))
            self.assertEqual(list(examples.places), sorted(examples.places))

    def test_every_kind_of_value(self):
        for value in EVERY_KIND:
            if isinstance(value, Examples):
                self.assertEqual(Examples.of(value.columns, value.cases), value)


if __name__ == "__main__":
    unittest.main()
