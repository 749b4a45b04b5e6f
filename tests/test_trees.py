"""Closed trees and row papers: [0.1] to [0.6], [0.15], [0.20], [0.21], [4.1], stage 4."""

import unittest

from askable.ask.answers import way_of
from askable.ask.rules import Query, Rule
from askable.ask.trees import (
    choices_of, closed_tree, height_of, is_closed_tree, is_row_paper, row_paper, size_of,
)
from askable.base.databases import Database
from askable.base.tables import Table, whole_table
from askable.errors import (
    InvalidDatabase, InvalidOperation, InvalidQuery, InvalidRule, TooMany, UnknownName,
)
from support import (
    EVERY_KIND, PATH, POINT, TIP, all_rows, all_wrong, check_error, check_errors, copy_of, is_right_barred, is_right_row,
    right_answers, right_ways, same, show, true_in, values_without, wrong_objects,
)
from test_answers import ASK, BOTH, FAR, LETTERS, NARROW, just_at_the_bound, small_cases
from test_rules import is_right_atom

INNER = ("choose", "z", (("broken", TIP.atoms[1]), ("broken", TIP.atoms[2]), ("broken", TIP.atoms[1])))
TREE = ("choose", "x", (("fine",), ("choose", "y", (INNER, ("broken", TIP.atoms[0]), INNER)), ("fine",)))


def agrees(head, row, chosen):
    """Whether a row agrees with a head, from the words of [0.15]."""
    for variable in head:
        told = {value for name, value in zip(head, row) if name == variable}
        if len(told) > 1 or variable in chosen and told != {chosen[variable]}:
            return False
    return True


def is_right_tree(rule, database, barred, value, chosen):
    """Whether a value is a closed tree, from the words of [0.15], choice by choice."""
    if not isinstance(value, tuple) or not value:
        return False
    if value[0] == "fine":
        return len(value) == 1 and not any(agrees(rule.head, row, chosen) for row in barred)
    if value[0] == "broken":
        if len(value) != 2 or not is_right_atom(value[1]) or value[1] not in rule.atoms:
            return False
        atom = value[1]
        names = atom[1:] if atom[0] == "unlike" else atom[2]
        return all(name in chosen for name in names) and not true_in(database, atom, chosen)
    if value[0] != "choose" or len(value) != 3 or not isinstance(value[2], tuple):
        return False
    if value[1] not in rule.variables or value[1] in chosen or len(value[2]) != len(database.domain):
        return False
    return all(
        is_right_tree(rule, database, barred, tree, {**chosen, value[1]: told})
        for tree, told in zip(value[2], sorted(database.domain))
    )


def parts_of(tree):
    """All closed trees in a tree, one for each place."""
    found = [tree]
    if tree[0] == "choose":
        for below in tree[2]:
            found += parts_of(below)
    return found


def exchanged(value, other):
    """All values with one part of a nested tuple exchanged by another value."""
    yield other
    if isinstance(value, tuple):
        for at, part in enumerate(value):
            for told in exchanged(part, other):
                yield value[:at] + (told,) + value[at + 1:]


def changed(value):
    """Values with one part of a nested tuple left out, put in, told twice, or made a list."""
    if isinstance(value, tuple):
        yield list(value)
        yield value + (("fine",),)
        for at, part in enumerate(value):
            yield value[:at] + value[at + 1:]
            yield value[:at] + (part,) + value[at:]
            for told in changed(part):
                yield value[:at] + (told,) + value[at + 1:]


def random_barred(rng, rule, database, inside):
    """An ascending tuple of rows that are no answers, or, if told so, of any rows."""
    right = right_answers(rule, database)
    rows = [row for row in all_rows(database.domain, len(rule.head)) if inside or row not in right]
    return tuple(row for row in rows if rng.random() < 0.6)


def any_tree(rng, rule, database, barred, chosen):
    """A closed tree with any choices, sometimes one more than is needed."""
    leaves = [("broken", atom) for atom in rule if is_right_tree(rule, database, barred, ("broken", atom), chosen)]
    if is_right_tree(rule, database, barred, ("fine",), chosen):
        leaves.append(("fine",))
    left = [variable for variable in rule.variables if variable not in chosen]
    if leaves and (not left or rng.random() < 0.8):
        return rng.choice(leaves)
    variable = rng.choice(left)
    told = [any_tree(rng, rule, database, barred, {**chosen, variable: value}) for value in database.domain]
    return ("choose", variable, tuple(told))


class ClosedTreeTest(unittest.TestCase):
    def test_there_is_one_exactly_if_no_barred_row_is_an_answer(self):
        for database, query, rng in small_cases(200, 21):
            for rule in query:
                for inside in (False, True):
                    barred = random_barred(rng, rule, database, inside)
                    tree = closed_tree(rule, database, barred)
                    if set(barred) & set(right_answers(rule, database)):
                        self.assertIsNone(tree)
                    else:
                        self.assertTrue(is_right_tree(rule, database, barred, tree, {}))
                        self.assertIs(is_closed_tree(rule, database, barred, tree), True)

    def test_many_atoms(self):
        for database, query, rng in small_cases(60, 22, 12):
            for rule in query:
                barred = random_barred(rng, rule, database, False)
                self.assertTrue(is_right_tree(rule, database, barred, closed_tree(rule, database, barred), {}))

    def test_without_barred_rows(self):
        for rule in (TIP, Rule(()), Rule(("x", "y", "z"))):
            self.assertIsNotNone(closed_tree(rule, PATH, ()))
            self.assertTrue(is_closed_tree(rule, PATH, (), ("fine",)))
            self.assertTrue(is_closed_tree(rule, PATH, (), closed_tree(rule, PATH, ())))

    def test_without_variables(self):
        database = Database(("a", "b"), void=Table(0), full=Table(0, ()))
        for atom in (("in", "void", ()), ("out", "full", ())):
            self.assertEqual(closed_tree(Rule((), atom), database, ((),)), ("broken", atom))
            self.assertTrue(is_closed_tree(Rule((), atom), database, ((),), ("broken", atom)))
            self.assertFalse(is_closed_tree(Rule((), atom), database, ((),), ("fine",)))
        for atom in (("in", "full", ()), ("out", "void", ())):
            self.assertIsNone(closed_tree(Rule((), atom), database, ((),)))
            self.assertFalse(is_closed_tree(Rule((), atom), database, ((),), ("broken", atom)))
            self.assertTrue(is_closed_tree(Rule((), atom), database, (), ("fine",)))

    def test_head_with_a_variable_twice(self):
        self.assertTrue(is_closed_tree(Rule(("x", "x")), POINT, (("a", "b"), ("b", "a")), ("fine",)))
        self.assertFalse(is_closed_tree(Rule(("x", "x")), POINT, (("a", "a"),), ("fine",)))
        self.assertIsNone(closed_tree(Rule(("x", "x")), POINT, (("a", "a"),)))
        self.assertIsNotNone(closed_tree(Rule(("x", "y", "x")), POINT, (("a", "b", "b"),)))

    def test_one_and_six_values(self):
        one = Database(("a",), t=Table(1))
        rule = Rule(("x",), ("unlike", "y", "y"))
        self.assertTrue(is_right_tree(rule, one, (("a",),), closed_tree(rule, one, (("a",),)), {}))
        six = Database(tuple("fedcba"), t=whole_table(tuple("abcdef"), 1))
        rule = Rule(("x", "y", "z"), ("out", "t", ("y",)))
        barred = tuple(all_rows("abcdef", 3))
        self.assertTrue(is_right_tree(rule, six, barred, closed_tree(rule, six, barred), {}))

    def test_errors(self):
        barred = all_wrong(InvalidOperation, lambda value: is_right_barred(value, 1, "abc"))
        barred += [(value, InvalidOperation) for value in (
            (("b",), ("a",)), (("a",), ("a",)), (("a", "b"),), (("d",),), [("a",)], (("a",), ["b"]), ((),), ("a",),
        )]
        parameters = [(TIP, wrong_objects(InvalidRule, Rule)), (PATH, wrong_objects(InvalidDatabase, Database))]
        parameters.append(((("b",),), barred))
        check_errors(self, closed_tree, parameters)
        check_errors(self, lambda *three: is_closed_tree(*three, ("fine",)), parameters)
        for query, error in ((BOTH, UnknownName("zzz")), (NARROW, InvalidOperation)):
            check_error(self, error, closed_tree, query[0], PATH, ())
            check_error(self, error, is_closed_tree, query[0], PATH, (), None)
        check_error(self, UnknownName("far"), closed_tree, FAR[1], PATH, (("a",),))
        check_error(self, InvalidOperation, closed_tree, FAR[1], PATH, (("d",),))

    def test_bound(self):
        for database, rule, beyond in just_at_the_bound():
            none = database.with_table("t", Table(1))
            tree = closed_tree(rule, none, ((),))
            self.assertTrue(is_closed_tree(rule, none, ((),), tree))
            self.assertIsNone(closed_tree(rule, database, ((),)))
            if beyond is not None:
                check_error(self, TooMany(65536), closed_tree, beyond, database, ())
                check_error(self, InvalidOperation, closed_tree, beyond, database, (("a",),))
                check_error(self, UnknownName("t"), closed_tree, beyond, database.without_table("t"), ())
                self.assertIs(is_closed_tree(beyond, none, ((),), tree), True)
                self.assertIs(is_closed_tree(beyond, database, (), ("fine",)), True)
                self.assertIs(is_closed_tree(beyond, database, ((),), tree), False)

    def test_the_greatest_tree(self):
        tables = {name: Table(3, *[row for row in all_rows("ab", 3) if row[2] == "b"]) for name in "pq"}
        database = Database.of(("a", "b"), tables)
        atoms = [("in", "p", (x, y, "p")) for x in LETTERS[:15] for y in LETTERS[:15]]
        rule = Rule((), *atoms, ("out", "q", ("a", "b", "p")))
        tree = closed_tree(rule, database, ((),))
        self.assertTrue(is_closed_tree(rule, database, ((),), tree))
        self.assertEqual(len(parts_of(tree)), size_of(tree))


class IsClosedTreeTest(unittest.TestCase):
    def test_any_choices(self):
        for database, query, rng in small_cases(120, 23):
            for rule in query:
                barred = random_barred(rng, rule, database, False)
                for _ in range(3):
                    tree = any_tree(rng, rule, database, barred, {})
                    self.assertIs(is_closed_tree(rule, database, barred, tree), True)

    def test_changed_trees(self):
        for database, query, rng in small_cases(60, 24, 3):
            for rule in query:
                barred = random_barred(rng, rule, database, False)
                tree = any_tree(rng, rule, database, barred, {})
                if size_of(tree) > 25:
                    continue
                leaves = [("fine",)] + [("broken", atom) for atom in rule]
                others = [told for leaf in leaves + ["x", "w", 1, True, None] for told in exchanged(tree, leaf)]
                for value in others + list(changed(tree)):
                    right = is_right_tree(rule, database, barred, value, {})
                    self.assertIs(is_closed_tree(rule, database, barred, value), right, show(value))

    def test_equal_trees_behind_several_values(self):
        rule = Rule(("x", "y"), ("unlike", "x", "y"))
        same_one = ("choose", "y", (("broken", rule.atoms[0]), ("fine",)))
        self.assertFalse(is_closed_tree(rule, POINT, (("a", "a"),), ("choose", "x", (same_one, same_one))))
        self.assertTrue(is_closed_tree(rule, POINT, (("a", "a"),), ("choose", "x", (same_one, ("fine",)))))
        fine = ("choose", "y", (("fine",), ("fine",)))
        self.assertTrue(is_closed_tree(Rule(("x", "x", "y")), POINT, (("a", "b", "a"),), ("choose", "x", (fine, fine))))
        self.assertFalse(is_closed_tree(Rule(("x", "y")), POINT, (("b", "b"),), ("choose", "x", (fine, fine))))

    def test_it_refuses(self):
        barred = (("b",),)
        wrong = [
            None, True, (), "fine", ("fine", ()), ["fine"], ("fine",), ("broken",), ("broken", TIP.atoms[0]),
            ("choose", "x"), ("choose", "w", (("fine",),) * 3), ("choose", "x", (("fine",),) * 2),
            ("choose", "x", (("fine",),) * 3), ("choose", "x", [("fine",)] * 3), ("choose", "x", (("fine",),) * 4),
            ("choose", ["x"], (("fine",),) * 3), ("choose", "x", {}), list(TREE), ("chose",) + TREE[1:],
            ("choose", "x", (("fine",), ("choose", "x", (INNER, INNER, INNER)), ("fine",))),
            ("broken", ("unlike", "z", "x")), ("broken", ["in", "edge", ("x", "y")]), ("broken", ("unlike", "x", "x")),
        ]
        for value in wrong + EVERY_KIND:
            self.assertIs(is_closed_tree(TIP, PATH, barred, value), False, show(value))
        self.assertTrue(is_closed_tree(TIP, PATH, barred, TREE))
        self.assertFalse(is_closed_tree(TIP, PATH, (("a",), ("b",)), TREE))
        self.assertFalse(is_closed_tree(TIP, PATH.with_row("edge", ("b", "b")), barred, TREE))

    def test_broken_atoms_are_told_as_they_are_kept(self):
        rule = Rule(("x",), ("unlike", "y", "x"))
        for atom, right in ((("unlike", "x", "y"), True), (("unlike", "y", "x"), False)):
            tree = ("choose", "y", (("choose", "x", (("broken", atom), ("fine",))), ("choose", "x", (("fine",), ("fine",)))))
            self.assertIs(is_closed_tree(rule, POINT, (), tree), right)

    def test_one_part_many_times_over(self):
        six = Database(tuple("abcdef"), t=Table(1))
        rule = Rule((), *[("in", "t", (name,)) for name in LETTERS[:16]])
        tree = ("broken", ("in", "t", ("a",)))
        for name in LETTERS[:16]:
            tree = ("choose", name, (tree,) * 6)
        self.assertTrue(is_closed_tree(rule, six, ((),), tree))
        self.assertFalse(is_closed_tree(rule, six.with_row("t", ("f",)), ((),), tree))
        self.assertEqual((height_of(tree), choices_of(tree)), (16, tuple(LETTERS[:16])))
        self.assertEqual(size_of(tree), sum(6 ** at for at in range(17)))


class RowPaperTest(unittest.TestCase):
    def test_just_one_form_exists(self):
        for database, query, _ in small_cases(120, 25):
            for row in all_rows(database.domain, query.columns):
                told = row_paper(query, database, row)
                self.assertIs(is_row_paper(query, database, row, told), True)
                if any(right_ways(rule, database, row) for rule in query):
                    self.assertEqual(told[0], "comes")
                    self.assertTrue(told[1][1] in right_ways(query[told[1][0]], database, row))
                else:
                    self.assertEqual((told[0], len(told[1])), ("stays", len(query)))
                    for rule, tree in zip(query, told[1]):
                        self.assertTrue(is_right_tree(rule, database, (row,), tree, {}))

    def test_without_rules(self):
        self.assertEqual(row_paper(Query(1), PATH, ("a",)), ("stays", ()))
        for value in EVERY_KIND:
            self.assertIs(is_row_paper(Query(1), PATH, ("a",), value), False, show(value))

    def test_it_refuses(self):
        way = way_of(ASK, PATH, ("a",))
        for value in [("comes",), ("comes", way, way), ["comes", way], ("stays", way), ("comes", list(way)), ("came", way),
                      ("comes", (False, way[1])), ("comes", (1, way[1])), ("stays", (("fine",),)), ("stays", ())] + EVERY_KIND:
            self.assertIs(is_row_paper(ASK, PATH, ("a",), value), False, show(value))
        self.assertTrue(is_row_paper(ASK, PATH, ("a",), ("comes", way)))
        for value in [("stays", TREE), ("stays", [TREE]), ("stays", (TREE, TREE)), ("stays", ()), ("comes", (TREE,)), ("stays",),
                      ("comes", way), ("stays", (("fine",),)), ["stays", (TREE,)], ("stays", (TREE,), ()),
                      ("stay", (TREE,)), (True, (TREE,))] + EVERY_KIND:
            self.assertIs(is_row_paper(ASK, PATH, ("b",), value), False, show(value))
        self.assertTrue(is_row_paper(ASK, PATH, ("b",), ("stays", (TREE,))))

    def test_trees_in_the_order_of_the_rules(self):
        first, second = Rule((), ("in", "at", ("x", "x")), ("out", "at", ("x", "x"))), Rule((), ("unlike", "x", "x"))
        trees = tuple(closed_tree(rule, POINT, ((),)) for rule in (first, second))
        query = Query(0, second, first)
        self.assertEqual(query.rules, (first, second))
        self.assertTrue(is_row_paper(query, POINT, (), ("stays", trees)))
        self.assertFalse(is_row_paper(query, POINT, (), ("stays", trees[::-1])))

    def test_errors(self):
        parameters = [
            (ASK, wrong_objects(InvalidQuery, Query)),
            (PATH, wrong_objects(InvalidDatabase, Database)),
            (("a",), all_wrong(InvalidOperation, lambda value: is_right_row(value, 1, "abc"))),
        ]
        check_errors(self, row_paper, parameters)
        check_errors(self, lambda *three: is_row_paper(*three, None), parameters)
        for query, error in ((FAR, UnknownName("far")), (BOTH, UnknownName("zzz")), (NARROW, InvalidOperation)):
            check_error(self, error, row_paper, query, PATH, ("a",))
            check_error(self, error, is_row_paper, query, PATH, ("a",), None)
            check_error(self, InvalidOperation, row_paper, query, PATH, ("d",))

    def test_bound(self):
        for database, rule, beyond in just_at_the_bound():
            way = ("comes", (0, {name: "a" for name in rule.variables}))
            self.assertEqual(row_paper(Query(0, rule), database, ()), way)
            if beyond is not None:
                way = ("comes", (0, {name: "a" for name in beyond.variables}))
                check_error(self, TooMany(65536), row_paper, Query(0, beyond), database, ())
                check_error(self, TooMany(65536), row_paper, Query(0, beyond, Rule(())), database, ())
                self.assertIs(is_row_paper(Query(0, beyond), database, (), way), True)
                self.assertIs(is_row_paper(Query(0, beyond), database, (), ("stays", (("fine",),))), False)

    def test_arguments_stay(self):
        value = ("comes", (0, {"x": "a", "y": "b", "z": "c"}))
        before = copy_of(value)
        is_row_paper(ASK, PATH, ("a",), value)
        self.assertTrue(same(value, before))
        told = row_paper(ASK, PATH, ("a",))
        told[1][1].clear()
        self.assertEqual(row_paper(ASK, PATH, ("a",)), before)


class TreeNumbersTest(unittest.TestCase):
    def test_leaves(self):
        for tree in (("fine",), ("broken", ("in", "t", ())), ("broken", ("unlike", "x", "x"))):
            self.assertEqual((size_of(tree), height_of(tree), choices_of(tree)), (1, 0, ()))

    def test_trees(self):
        self.assertEqual((size_of(TREE), height_of(TREE), choices_of(TREE)), (13, 3, ("x", "y", "z")))
        again = ("choose", "y", (("choose", "y", (("fine",),)), ("fine",), ("choose", "a", (("fine",),) * 6)))
        self.assertEqual((size_of(again), height_of(again), choices_of(again)), (11, 2, ("a", "y")))
        deep = ("fine",)
        for _ in range(19):
            deep = ("choose", "x", (deep,))
        self.assertEqual((size_of(deep), height_of(deep), choices_of(deep)), (20, 19, ("x",)))

    def test_random_trees(self):
        def height(tree):
            return 1 + max(map(height, tree[2])) if tree[0] == "choose" else 0

        for database, query, rng in small_cases(80, 26):
            for rule in query:
                tree = any_tree(rng, rule, database, random_barred(rng, rule, database, False), {})
                parts = parts_of(tree)
                self.assertEqual(size_of(tree), len(parts))
                self.assertEqual(height_of(tree), height(tree))
                self.assertEqual(choices_of(tree), tuple(sorted({part[1] for part in parts if part[0] == "choose"})))

    def test_errors(self):
        def is_tree(value):
            return isinstance(value, tuple) and value in (
                ("fine",), ("broken", ("in", "edge", ("x",))), ("choose", "x", (("fine",),)),
            )

        wrong = values_without(is_tree) + [
            ("broken", ("unlike", "y", "x")), ("choose", "X", (("fine",),)), ("choose", "x", ()), ("choose", "x", (("fine",),) * 7),
            ("choose", "x", (("fine",), ("fin",))), ("choose", "x", [("fine",)]), ("fine", ()), ("broken", None), ("broken",),
            ("choose", "x", ("fine",)), ("choose", 1, (("fine",),)), (("fine",),), ("choose", "x", (("choose", "x", (1,)),)),
            ("chose", "x", (("fine",),)), ("break", ("in", "edge", ("x",))), ["broken", ("in", "edge", ("x",))], ["fine"],
            ["choose", "x", (("fine",),)],
        ]
        for value in wrong:
            for call in (size_of, height_of, choices_of):
                check_error(self, InvalidOperation, call, value)


if __name__ == "__main__":
    unittest.main()
