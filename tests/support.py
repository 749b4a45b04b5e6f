"""What several tests need: the values of the document's examples, values of every kind, and orders of errors."""

import itertools
import re

from askable.ask.answers import ways
from askable.ask.rules import Query, Rule
from askable.base.databases import Database
from askable.base.tables import Table
from askable.desk.desk import Desk
from askable.errors import InvalidNumber
from askable.keep.maps import maps
from askable.text.shell import Shell
from askable.wish.examples import Examples

PATH = Database(("a", "b", "c"), edge=Table(2, ("a", "b"), ("b", "a"), ("b", "c"), ("c", "b")))
POINT = Database(("a", "b"), at=Table(2, ("a", "a")))
THERE = Database(("a", "b"), to=Table(2, ("a", "b")))
BACK = Database(("a", "b"), to=Table(2, ("a", "b"), ("b", "a")))
TIP = Rule(("x",), ("in", "edge", ("x", "y")), ("in", "edge", ("y", "z")), ("unlike", "z", "x"))
ENDS = Examples(1, (PATH, (("a",), ("c",)), None))
REST = Examples(2, (POINT, (("a", "b"), ("b", "a"), ("b", "b")), None))
BEGIN = Examples(1, (THERE, (("a",),), ()), (BACK, (), (("a",),)))
SPOTS = Database(("a", "b", "c"), p=Table(1, ("a",)), q=Table(1, ("b",)))
EITHER = Examples(1, (SPOTS, (("a",), ("b",)), None))
NOWHERE = Query(2, Rule(("x", "y"), ("out", "at", ("x", "y"))))
TURN = ("keeper", ((0, ("a",)),), 0, {("a",): "b", ("b",): "a", ("c",): "b"})


def nested(wrap, depth, inner):
    """A value within so many tuples, lists or dicts."""
    for _ in range(depth):
        inner = wrap(inner)
    return inner


NUMBERS = [0, 1, 2, 3, 4, -1, -4, 16, 10 ** 40 - 1, 1 - 10 ** 40]
STRINGS = [
    "", "a", "b", "z", "abcdefgh", "abcdefghi", "A", "aB", "a1", "1", "_", "a_", " ", "a b", " a", "a ", "a\n", "\n",
    "a" * 10000, "~" * 10000, "in", "out", "unlike", "fine", "comes", "deep one not", "deep many not ", "{x}", "values",
    "()", "(a)", "1: (a)", "2: -", "values a b", "values a b\nat 2: (a,a)", "(x) if edge(x,y)", "1\n(x) if edge(x,y)", "0", "names",
    "drop one", "put one\nvalues a", "ask far flat one plain", "undo 1", "wish far 01",
]
TUPLES = [
    (), ("a",), ("a", "a"), ("b", "a"), ("a", "b"), ("a", "b", "c"), ("a", "b", "c", "d"), ("a", "b", "c", "d", "e", "f"),
    ("a", "b", "c", "d", "e", "f", "g"), ("A",), ("",), ("a", 1), (1,), (True,), (None,), (["a"],), (("a",),), (("a", "b"),),
    (("b",), ("a",)), (("a",), ("a",)), ("in", "edge"), ("in", "none"), ("out", "edge"), ("unlike",), ("like",),
    ("unlike", "x"), ("in", "edge", ("x", "y")), ("unlike", "x", "y"), ("unlike", "y", "x"), ("in", ["edge"]), ("fine",),
    ("broken", ("in", "edge", ("x",))), ("choose", "x", (("fine",),)), (0, {}), (0, {"x": "a"}),
    nested(lambda one: (one,), 40, ()), nested(lambda one: ("choose", "x", (one,)), 19, 1), ({},), (POINT,),
    (0, ("a",)), ((0, ("a",)),), ((True, ("a",)),), ((0, ("a",)), (0, ("c",))), ((0, ("a", "b")),), ("keeper", (), 0, {}), TURN,
    ("map", {"a": "a", "b": "b", "c": "c"}), ("map", {"a": "b"}), ("map", {}), ("parted", TIP, {}, ("fine",)), ("map",),
    ("put", "one", POINT), ("drop", "one"), ("wish", "far", 1), ("must", "far", "one", ("a",)), ("put", "one"), (PATH,),
    (PATH, POINT), (THERE, BACK), (Table(1, ("a",)),), (Table(1), Table(1)), (Table(0), Table(1)),
    ("keeper", ((0, ("a",)),), 0, {}), ("query", NOWHERE, (), ()), ("keeper",), ((("a", "c"),),), (PATH, (("a",),), None),
    (PATH, (("a",),), (("b",),)), (PATH, (), ()), ((),), ((), ()),
]
LISTS = [
    [], ["a"], ["a", "b"], [["a"]], [("a",)], [("in", "edge", ("x", "y"))], ["in", "edge", ["x"]], ["fine"], [0, {}],
    ["unlike"], ["in", "edge"], nested(lambda one: [one], 40, 1),
]
DICTS = [
    {}, {"a": "b"}, {"a": "a", "b": "b"}, {"a": "a", "b": "b", "c": "c"}, {"a": "b", "b": "b", "c": "c"}, {1: 2}, {"a": 1},
    {None: "a"}, {True: "a"}, {("a",): "a"}, {"A": "a"}, {"x": "a"}, {"x": "a", "y": "b"}, {"edge": Table(2)}, {"edge": "a"},
    {"x": "x", "y": "y", "z": "z"}, {1: "a", "x": "b"}, {("a",): "a", ("b",): "b", ("c",): "c"}, {("a", "c"): "b"}, {(): "a"}, nested(lambda one: {"a": one}, 40, {}),
]
OBJECTS = [
    Table(0), Table(0, ()), Table(1, ("a",)), Table(2, ("a", "b")), PATH, POINT, THERE, Database(("a",)), TIP, Rule(()),
    Rule(("x",)), Query(0), Query(1, TIP), Query(0, Rule(())), ways(TIP, PATH, ("a",)), InvalidNumber(3), NOWHERE,
    ENDS, REST, BEGIN, Examples(0, (POINT, ((),), ())), maps(POINT, POINT, "deep one plain"), maps(1, 2, 3),
    Desk({}), Desk({"to": 2}), Shell(Desk({})), Desk({"at": 2}).news(), Shell(Desk({})).run_all(()),
]
EVERY_KIND = NUMBERS + [True, False, None] + STRINGS + TUPLES + LISTS + DICTS + OBJECTS


def values_without(is_right):
    """The values of every kind for which a test of its own is not true."""
    return [value for value in EVERY_KIND if not is_right(value)]


def is_right_name(value):
    return isinstance(value, str) and re.fullmatch("[a-z]{1,8}", value) is not None


def is_right_number(value, most):
    return not isinstance(value, bool) and isinstance(value, int) and 0 <= value <= most


def is_right_row(value, columns, values):
    return isinstance(value, tuple) and len(value) == columns and all(isinstance(x, str) and x in values for x in value)


def is_right_barred(value, columns, values):
    if not isinstance(value, tuple) or not all(is_right_row(row, columns, values) for row in value):
        return False
    return list(value) == sorted(set(value))


def kept_by(error):
    """What an error keeps, under its name."""
    return dict(vars(error))


def check_error(test, expected, call, *arguments):
    """Test that a call raises just this error, and that the error keeps what the document says.

    The error that is expected is a class, or an error with the values that it keeps.
    """
    before = copy_of(arguments)
    with test.assertRaises(Exception, msg=f"{call} {show(arguments)}") as told:
        result = call(*arguments)
        if hasattr(result, "__next__"):
            next(result)
    raised = told.exception
    if isinstance(expected, Exception):
        test.assertIs(expected.__class__, raised.__class__, show(arguments))
        for name, value in kept_by(expected).items():
            test.assertIs(value.__class__, kept_by(raised)[name].__class__)
            test.assertEqual(value, kept_by(raised)[name])
    else:
        test.assertIs(expected, raised.__class__, show(arguments))
    test.assertTrue(same(before, arguments))


def copy_of(value):
    """A copy of plain values; objects of the package never change and generators cannot be copied."""
    if isinstance(value, (tuple, list)):
        return value.__class__([copy_of(part) for part in value])
    if isinstance(value, dict):
        return {key: copy_of(value[key]) for key in value}
    return value


def same(one, other):
    """Whether two values are equal, of the same kinds throughout, with dicts in any order."""
    if one.__class__ is not other.__class__:
        return False
    if isinstance(one, (tuple, list)):
        return len(one) == len(other) and all(same(x, y) for x, y in zip(one, other))
    if isinstance(one, dict):
        return one.keys() == other.keys() and all(same(one[key], other[key]) for key in one)
    return one is other or one == other


def show(value):
    return repr(value)[:300]


def check_errors(test, call, parameters):
    """Test the errors of each argument alone, and the first error of several wrong ones.

    The parameters are pairs: a right value, and the list of pairs of a wrong value and its error,
    or of one error for all values of a list.
    """
    for at, (_, wrong) in enumerate(parameters):
        for value, error in wrong:
            arguments = [right for right, _ in parameters]
            arguments[at] = value
            check_error(test, error, call, *arguments)
    choices = [[(right, None)] + some_of(wrong) for right, wrong in parameters]
    for chosen in itertools.product(*choices):
        errors = [error for _, error in chosen if error is not None]
        if errors:
            check_error(test, errors[0], call, *[value for value, _ in chosen])


def some_of(wrong):
    """A few of many wrong values, far apart."""
    return wrong[::max(1, len(wrong) // 4)]


def all_wrong(error, is_right):
    """The pairs of all values of every kind that are wrong, with one error."""
    return [(value, error) for value in values_without(is_right)]


def all_wrong_kept(error, is_right):
    """The same, where the error keeps the value."""
    return [(value, error(value)) for value in values_without(is_right)]


def wrong_objects(error, kind):
    """The pairs of all values of every kind that are not of a class, with one error."""
    return all_wrong(error, lambda value: isinstance(value, kind))


def fillings(names, values):
    """All dicts from names to values."""
    return [dict(zip(names, row)) for row in itertools.product(values, repeat=len(names))]


def true_in(database, atom, mapping):
    """Whether an atom is true, straight from the words of [0.9] and [0.10]."""
    if atom[0] == "unlike":
        return mapping[atom[1]] != mapping[atom[2]]
    row = tuple(mapping[variable] for variable in atom[2])
    rows = list(database[atom[1]])
    return row in rows if atom[0] == "in" else row not in rows


def right_ways(rule, database, row):
    """All dicts by which a row is an answer, found by filling in all values."""
    found = []
    for mapping in fillings(sorted(rule.variables), database.domain):
        if tuple(mapping[variable] for variable in rule.head) == row:
            if all(true_in(database, atom, mapping) for atom in rule.atoms):
                found.append(mapping)
    return found


def all_rows(values, columns):
    return list(itertools.product(sorted(values), repeat=columns))


def right_answers(rule, database):
    return [row for row in all_rows(database.domain, len(rule.head)) if right_ways(rule, database, row)]


def random_database(rng, most_values=3):
    """A small database with some tables of 0 to 3 columns."""
    values = tuple("abcdef"[:rng.randint(1, most_values)])
    tables = {}
    for name, columns in (("none", 0), ("one", 1), ("two", 2), ("three", 3)):
        share = rng.random()
        tables[name] = Table(columns, *[row for row in all_rows(values, columns) if rng.random() < share])
    return Database(values, **tables)


def random_rule(rng, columns, most_atoms=4, variables="wxyz"):
    """A small rule for the databases above."""
    atoms = []
    for _ in range(rng.randint(0, most_atoms)):
        if rng.random() < 0.2:
            atoms.append(("unlike", rng.choice(variables), rng.choice(variables)))
        else:
            name, many = rng.choice((("none", 0), ("one", 1), ("two", 2), ("three", 3)))
            told = tuple(rng.choice(variables) for _ in range(many))
            atoms.append((rng.choice(("in", "out")), name, told))
    return Rule(tuple(rng.choice(variables) for _ in range(columns)), *atoms)
