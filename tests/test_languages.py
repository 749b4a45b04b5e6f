"""The twelve languages: [0.11], stage 2."""

import itertools
import unittest

from askable.ask.languages import LANGUAGES, is_language, is_within, joined, signs_of
from askable.base.databases import Database, sign_table
from askable.base.tables import Table
from askable.errors import InvalidDatabase, InvalidOperation
from support import EVERY_KIND, PATH, THERE, all_wrong, check_errors, show, wrong_objects

DEPTHS = ["flat", "deep"]
NUMBERS = ["one", "many"]
LASTS = ["plain", "unlike", "not"]


def is_right_language(value):
    if not isinstance(value, str) or value.count(" ") != 2:
        return False
    depth, number, last = value.split(" ")
    return depth in DEPTHS and number in NUMBERS and last in LASTS


def ranks(language):
    depth, number, last = language.split(" ")
    return DEPTHS.index(depth), NUMBERS.index(number), LASTS.index(last)


WRONG = all_wrong(InvalidOperation, is_right_language) + [
    (value, InvalidOperation)
    for value in ("deep one", "one deep not", "deep  one not", " deep one not", "deep one not\n", "Deep one not", "deep one no")
]


class LanguagesTest(unittest.TestCase):
    def test_order(self):
        right = [" ".join(words) for words in itertools.product(DEPTHS, NUMBERS, LASTS)]
        self.assertEqual(LANGUAGES, tuple(right))

    def test_is_language(self):
        for value in list(LANGUAGES) + EVERY_KIND + [value for value, _ in WRONG]:
            self.assertIs(is_language(value), is_right_language(value), show(value))

    def test_is_within(self):
        for one, other in itertools.product(LANGUAGES, repeat=2):
            right = all(x <= y for x, y in zip(ranks(one), ranks(other)))
            self.assertIs(is_within(one, other), right, (one, other))

    def test_joined(self):
        for one, other in itertools.product(LANGUAGES, repeat=2):
            told = joined(one, other)
            self.assertEqual(ranks(told), tuple(max(x, y) for x, y in zip(ranks(one), ranks(other))))
            above = [word for word in LANGUAGES if is_within(one, word) and is_within(other, word)]
            self.assertTrue(all(is_within(told, word) for word in above))
            self.assertIn(told, above)

    def test_errors(self):
        for call in (is_within, joined):
            check_errors(self, call, [("deep one not", WRONG), ("flat one plain", WRONG)])
        check_errors(self, signs_of, [(PATH, wrong_objects(InvalidDatabase, Database)), ("deep one not", WRONG)])


class SignsTest(unittest.TestCase):
    database = Database(("a", "b"), q=Table(1), p=Table(0), r=Table(3))

    def test_signs(self):
        ins = [("in", "p"), ("in", "q"), ("in", "r")]
        outs = [("out", "p"), ("out", "q"), ("out", "r")]
        for language in LANGUAGES:
            right = list(ins)
            if language.endswith("unlike") or language.endswith("not"):
                right.append(("unlike",))
            if language.endswith("not"):
                right += outs
            self.assertEqual(signs_of(self.database, language), tuple(sorted(right)))

    def test_without_tables(self):
        none = Database(("a",))
        self.assertEqual([signs_of(none, "flat one plain"), signs_of(none, "deep many not")], [(), (("unlike",),)])

    def test_they_are_signs(self):
        for sign in signs_of(THERE, "deep many not"):
            self.assertEqual(sign_table(THERE, sign).columns, 2)


if __name__ == "__main__":
    unittest.main()
