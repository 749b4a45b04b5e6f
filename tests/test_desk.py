"""The desk: [0.2] to [0.4], [0.17], [0.19], [0.20], [16.1], stage 16."""

import inspect
import random
import unittest

from askable.ask.languages import LANGUAGES
from askable.base.databases import Database
from askable.base.tables import Table
from askable.desk.desk import Desk
from askable.errors import (
    InvalidDatabase, InvalidEdit, InvalidNumber, InvalidOperation, NothingToUndo, TooMany, UnknownName,
)
from askable.wish.examples import Examples
from askable.wish.ladder import is_ladder, ladder, ladder_papers
from askable.wish.papers import is_paper
from support import (
    BACK, EVERY_KIND, PATH, POINT, SPOTS, THERE, all_rows, all_wrong, all_wrong_kept, check_error, check_errors, is_right_name,
    is_right_number, is_right_row, kept_by, show, wrong_objects,
)
from test_languages import WRONG, is_right_language

SHAPE = {"to": 2}
MANY_VALUES = Database(tuple("abcdef"), to=Table(2, ("a", "b")))
LENGTHS = {
    "put": 3, "drop": 2, "row": 4, "unrow": 4, "value": 3, "unvalue": 3, "wish": 3, "forget": 2, "must": 4, "bar": 4, "open": 4,
}
RIGHT_EDITS = [
    ("put", "two", THERE), ("drop", "one"), ("row", "one", "to", ("b", "a")), ("unrow", "one", "to", ("a", "b")),
    ("value", "one", "c"), ("unvalue", "one", "c"), ("wish", "near", 2), ("forget", "far"), ("must", "far", "one", ("a",)),
    ("bar", "far", "one", ("a",)), ("open", "far", "one", ("a",)),
]


def begun():
    """A desk with one database, and one wish that says something of one of its rows."""
    desk = Desk(SHAPE)
    desk.apply(("put", "one", BACK), ("wish", "far", 1), ("bar", "far", "one", ("b",)))
    return desk


class Model:
    """A plain model of a desk: everything is copied whole, ahead of each group."""

    def __init__(self, shape):
        self.shape = dict(shape)
        self.databases, self.wishes, self.watched = {}, {}, set()
        self.done, self.undone, self.before = [], [], None

    def state(self):
        databases = {
            name: (set(values), {table: set(rows) for table, rows in tables.items()})
            for name, (values, tables) in self.databases.items()
        }
        return databases, {wish: (columns, dict(said)) for wish, (columns, said) in self.wishes.items()}

    def put_back(self, state):
        self.databases, self.wishes = state

    def apply(self, edits):
        before = self.state()
        try:
            for edit in edits:
                self.edit(edit)
        except Exception:
            self.put_back(before)
            raise
        if edits:
            self.done.append((edits, before, self.state()))
            self.undone = []
            self.before = before
        return len(self.done)

    def step(self, many, back):
        groups = self.done if back else self.undone
        if isinstance(many, bool) or not isinstance(many, int) or many < 0:
            raise InvalidNumber(many)
        if many > len(groups):
            raise NothingToUndo(many)
        before = self.state()
        for _ in range(many):
            if back:
                group = self.done.pop()
                self.undone.append(group)
                self.put_back(group[1])
            else:
                group = self.undone.pop()
                self.done.append(group)
                self.put_back(group[2])
            self.put_back(self.state())
        if many:
            self.before = before
        return len(self.done)

    def edit(self, edit):
        if not isinstance(edit, tuple) or not edit or not isinstance(edit[0], str) or LENGTHS.get(edit[0]) != len(edit):
            raise InvalidEdit("form")
        word = edit[0]
        new = {"put": 1, "wish": 1, "value": 2, "unvalue": 2}.get(word)
        if new is not None and not is_right_name(edit[new]):
            raise InvalidEdit("name")
        if word == "put":
            self.put(edit[1], edit[2])
        elif word == "wish":
            if edit[1] in self.wishes:
                raise InvalidOperation("there")
            if not is_right_number(edit[2], 3):
                raise InvalidNumber(edit[2])
            self.wishes[edit[1]] = (edit[2], {})
        elif word == "forget":
            self.known(edit[1], self.wishes)
            del self.wishes[edit[1]]
        elif word in ("must", "bar", "open"):
            self.say(*edit)
        else:
            self.known(edit[1], self.databases)
            self.change(*edit)

    def known(self, name, among):
        if not isinstance(name, str) or name not in among:
            raise UnknownName(name)

    def put(self, name, database):
        if name in self.databases:
            raise InvalidOperation("there")
        if not isinstance(database, Database):
            raise InvalidDatabase("none")
        if database.shape != self.shape:
            raise InvalidOperation("shape")
        if len(self.databases) == 4:
            raise TooMany(4)
        self.databases[name] = (set(database.domain), {table: set(database[table]) for table in database})

    def say(self, word, wish, name, row):
        self.known(wish, self.wishes)
        self.known(name, self.databases)
        columns, said = self.wishes[wish]
        if not is_right_row(row, columns, self.databases[name][0]):
            raise InvalidOperation("row")
        if word == "open":
            said.pop((name, row), None)
        else:
            said[name, row] = word

    def change(self, word, name, *parts):
        values, tables = self.databases[name]
        if word == "drop":
            del self.databases[name]
            for _, said in self.wishes.values():
                for place in [place for place in said if place[0] == name]:
                    del said[place]
        elif word in ("row", "unrow"):
            self.known(parts[0], tables)
            if not is_right_row(parts[1], self.shape[parts[0]], values):
                raise InvalidOperation("row")
            if word == "row":
                tables[parts[0]].add(parts[1])
            else:
                tables[parts[0]].discard(parts[1])
        elif word == "value":
            if parts[0] not in values and len(values) == 6:
                raise TooMany(6)
            values.add(parts[0])
        elif parts[0] in values:
            used = {value for rows in tables.values() for row in rows for value in row}
            told = {value for _, said in self.wishes.values() for home, row in said if home == name for value in row}
            if len(values) == 1 or parts[0] in used | told:
                raise InvalidOperation("value")
            values.remove(parts[0])

    def examples(self, wish, state=None):
        databases, wishes = self.state() if state is None else state
        if wish not in wishes or not databases:
            return None
        columns, said = wishes[wish]
        cases = []
        for name in sorted(databases):
            values, tables = databases[name]
            database = Database.of(
                tuple(sorted(values)), {table: Table(self.shape[table], *rows) for table, rows in tables.items()}
            )
            rows = [[row for (home, row), word in said.items() if home == name and word == told] for told in ("must", "bar")]
            cases.append((database, tuple(rows[0]), tuple(rows[1])))
        return Examples(columns, *cases)

    def tells(self, pair, state=None):
        examples = self.examples(pair[0], state)
        return "gone" if examples is None else ladder(examples)[pair[1]]

    def news(self):
        if self.before is None:
            return []
        told = [(pair, self.tells(pair, self.before), self.tells(pair)) for pair in sorted(self.watched)]
        return [one for one in told if one[1] is not one[2] and one[1] != one[2]]


def some_edit(rng, model):
    """An edit that is mostly right, and now and then wrong in some part."""
    word = rng.choice(sorted(LENGTHS) + 2 * ["put", "wish", "row"] + 5 * ["must", "bar"])
    if word in ("drop", "forget") and rng.random() < 0.6:
        word = "value"
    name = rng.choice(sorted(model.databases) or ["one"]) if rng.random() < 0.95 else rng.choice(("one", "two", "six"))
    wish = rng.choice(sorted(model.wishes) or ["far"]) if rng.random() < 0.95 else rng.choice(("far", "near"))
    values = sorted(model.databases[name][0]) if name in model.databases else ["a", "b"]
    table = rng.choice(sorted(model.shape) or ["no"])
    if word == "put":
        told = tuple("abcdef"[:rng.randint(1, 3)])
        tables = {
            table: Table(columns, *[row for row in all_rows(told, columns) if rng.random() < 0.4])
            for table, columns in model.shape.items()
        }
        return word, rng.choice(("one", "two", "three", "four", "five")), Database.of(told, tables)
    if word in ("row", "unrow"):
        columns = model.shape.get(table, 1) + (rng.random() < 0.03)
        return word, name, table, tuple(rng.choice(values) for _ in range(columns))
    if word in ("value", "unvalue"):
        return word, name, rng.choice(values + list("abcdef"))
    if word == "wish":
        return word, rng.choice(("far", "near", "afar", wish)), rng.choice((0, 1, 1, 1, 1, 2, 4))
    if word in ("must", "bar", "open"):
        columns = model.wishes[wish][0] if wish in model.wishes else 1
        return word, wish, name, tuple(rng.choice(values) for _ in range(columns))
    return (word, wish) if word == "forget" else (word, name)


def raised_by(call, *arguments):
    """The kind of an error that a call raises, with what it keeps, or what it returns."""
    try:
        return None, call(*arguments)
    except Exception as error:
        return error.__class__, kept_by(error)


class DeskCase(unittest.TestCase):
    def check_same(self, desk, model, pairs=()):
        """Test that a desk tells what its model tells."""
        self.assertEqual(desk.shape, model.shape)
        self.assertEqual(desk.names, tuple(sorted(model.databases)))
        self.assertEqual(desk.wishes, tuple(sorted(model.wishes)))
        self.assertEqual(desk.log, tuple(group[0] for group in model.done))
        self.assertEqual(len(desk), len(model.done))
        self.assertEqual(desk.watched, tuple(sorted(model.watched)))
        self.assertEqual(str(desk), f"desk of {len(model.databases)} databases, {len(model.wishes)} wishes")
        for name, (values, tables) in model.databases.items():
            self.assertEqual(desk[name].domain, tuple(sorted(values)))
            self.assertEqual({table: set(desk[name][table]) for table in desk[name]}, tables)
            self.assertIs(name in desk, True)
        for wish in model.wishes:
            if model.databases:
                self.assertEqual(desk.examples(wish), model.examples(wish))
            else:
                check_error(self, InvalidOperation, desk.examples, wish)
        self.assertEqual(list(desk.news()), model.news())


class DrawnTest(DeskCase):
    def test_drawn_rows_of_groups_and_steps(self):
        for seed in range(14):
            rng = random.Random(seed)
            shape = ({}, {"to": 2}, {"p": 1}, {"p": 1, "t": 0}, {"to": 2, "p": 1})[seed // 3]
            desk, model = Desk(shape), Model(shape)
            for _ in range(120):
                self.do_something(rng, desk, model)
                self.check_same(desk, model)

    def do_something(self, rng, desk, model):
        draw = rng.random()
        if draw < 0.7:
            edits = tuple(some_edit(rng, model) for _ in range(rng.choice((1, 1, 1, 1, 2, 3))))
            call = desk.apply_all if rng.random() < 0.5 else lambda edits: desk.apply(*edits)
            self.assertEqual(raised_by(call, edits), raised_by(model.apply, edits), edits)
        elif draw < 0.83:
            back, many = rng.random() < 0.6, rng.choice((0, 1, 1, 1, 1, 2, 3, 40))
            call = desk.undo if back else desk.redo
            self.assertEqual(raised_by(lambda: call(many=many)), raised_by(model.step, many, back))
        elif model.wishes and draw < 0.95:
            pair = rng.choice(sorted(model.wishes)), rng.choice(LANGUAGES)
            self.assertEqual(desk.watch(*pair), model.tells(pair))
            model.watched.add(pair)
        elif model.watched:
            pair = rng.choice(sorted(model.watched))
            self.assertEqual(desk.unwatch(*pair), model.tells(pair))
            model.watched.discard(pair)

    def test_trials_and_twins(self):
        for seed in range(20, 30):
            rng = random.Random(seed)
            desk, model = Desk(SHAPE), Model(SHAPE)
            for _ in range(40):
                self.do_something(rng, desk, model)
            news = list(desk.news())
            twin, other = desk.twin(), Model(SHAPE)
            other.__dict__.update({name: value for name, value in self.copied(model).items()})
            other.before = None
            with desk.trial() as one:
                self.assertIs(one, desk)
                inner = Model(SHAPE)
                inner.__dict__.update(self.copied(model))
                for _ in range(15):
                    self.do_something(rng, desk, inner)
                self.check_same(desk, inner)
            self.check_same(desk, model)
            self.assertEqual(list(desk.news()), news)
            self.assertEqual(list(twin.news()), [])
            self.check_same(twin, other)
            for _ in range(20):
                self.do_something(rng, twin, other)
                self.check_same(twin, other)
            self.check_same(desk, model)

    def copied(self, model):
        databases, wishes = model.state()
        return {
            "databases": databases, "wishes": wishes, "watched": set(model.watched), "done": list(model.done),
            "undone": list(model.undone), "before": model.before,
        }

    def test_all_of_it_holds_after_any_edits(self):
        # The ladder and the papers are those of the same examples that were never edited.
        for seed in range(40, 46):
            rng = random.Random(seed)
            desk, model = Desk(SHAPE), Model(SHAPE)
            for _ in range(60):
                self.do_something(rng, desk, model)
            for wish in desk.wishes if desk.names else ():
                examples = model.examples(wish)
                self.assertEqual(desk.ladder(wish), ladder(examples))
                papers = {}
                for language in LANGUAGES:
                    told = raised_by(desk.paper, wish, language)
                    if told[0] is None:
                        self.assertTrue(is_paper(examples, language, told[1]))
                        papers[language] = told[1]
                    else:
                        self.assertEqual(told, (TooMany, {"limit": 65536}))
                if len(papers) == 12:
                    self.assertTrue(is_ladder(examples, papers))
                    self.assertEqual(papers, ladder_papers(examples))


class EditTest(DeskCase):
    def check_edit(self, error, desk, *edits):
        """Test that a group is refused with an error, and changes nothing."""
        before = (desk.names, desk.wishes, desk.log, str(desk), [desk[name] for name in desk.names], list(desk.news()))
        examples = [desk.examples(wish) for wish in desk.wishes if desk.names]
        check_error(self, error, desk.apply, *edits)
        check_error(self, error, desk.apply_all, edits)
        after = (desk.names, desk.wishes, desk.log, str(desk), [desk[name] for name in desk.names], list(desk.news()))
        self.assertEqual(before, after)
        self.assertEqual(examples, [desk.examples(wish) for wish in desk.wishes if desk.names])

    def test_each_edit(self):
        desk = Desk({"to": 2})
        self.assertEqual(desk.apply(("put", "one", THERE)), 1)
        self.assertEqual((desk.names, desk["one"], "one" in desk, "two" in desk), (("one",), THERE, True, False))
        self.assertEqual(desk.apply(("row", "one", "to", ("b", "a"))), 2)
        self.assertEqual(desk["one"], BACK)
        self.assertEqual(desk.apply(("unrow", "one", "to", ("b", "a"))), 3)
        self.assertEqual(desk["one"], THERE)
        self.assertEqual(desk.apply(("value", "one", "c")), 4)
        self.assertEqual(desk["one"].domain, ("a", "b", "c"))
        self.assertEqual(desk.apply(("unvalue", "one", "c")), 5)
        self.assertEqual(desk["one"], THERE)
        self.assertEqual(desk.apply(("wish", "far", 1), ("must", "far", "one", ("a",)), ("bar", "far", "one", ("b",))), 6)
        self.assertEqual(desk.examples("far"), Examples(1, (THERE, (("a",),), (("b",),))))
        desk.apply(("bar", "far", "one", ("a",)))
        self.assertEqual(desk.examples("far"), Examples(1, (THERE, (), (("a",), ("b",)))))
        desk.apply(("must", "far", "one", ("b",)), ("open", "far", "one", ("a",)))
        self.assertEqual(desk.examples("far"), Examples(1, (THERE, (("b",),), ())))
        desk.apply(("put", "all", BACK))
        self.assertEqual(desk.examples("far"), Examples(1, (BACK, (), ()), (THERE, (("b",),), ())))
        desk.apply(("drop", "one"))
        self.assertEqual((desk.names, desk.examples("far")), (("all",), Examples(1, (BACK, (), ()))))
        desk.apply(("put", "one", THERE))
        self.assertEqual(desk.examples("far"), Examples(1, (BACK, (), ()), (THERE, (), ())))
        self.assertEqual(desk.apply(("forget", "far")), 12)
        self.assertEqual(desk.wishes, ())

    def test_what_is_there_already_or_not_there(self):
        for edit in (
            ("row", "one", "to", ("a", "b")), ("unrow", "one", "to", ("a", "a")), ("value", "one", "a"), ("unvalue", "one", "zz"),
            ("bar", "far", "one", ("b",)), ("open", "far", "one", ("a",)),
        ):
            desk, other = begun(), begun()
            self.assertEqual(desk.apply(edit), 2)
            self.assertEqual(desk, other)
            self.assertEqual(desk.log[1], (edit,))
            self.assertEqual(desk.undo(), 1)
            self.assertEqual(desk, other)
        full = Desk(SHAPE)
        full.apply(("put", "six", MANY_VALUES))
        self.assertEqual(full.apply(("value", "six", "f"), ("unvalue", "six", "g")), 2)
        alone = Desk({})
        alone.apply(("put", "one", Database(("a",))))
        self.assertEqual(alone.apply(("unvalue", "one", "b")), 2)
        # What is gone and comes again is a new one.
        desk = begun()
        desk.apply(("drop", "one"), ("put", "one", THERE), ("forget", "far"), ("wish", "far", 2))
        self.assertEqual(desk.examples("far"), Examples(2, (THERE, (), ())))

    def test_form_of_edits(self):
        wrong = [value for value in EVERY_KIND if not isinstance(value, tuple)]
        wrong += [value for value in EVERY_KIND if isinstance(value, tuple) and (not value or value[0] not in list(LENGTHS))]
        wrong += [edit[:-1] for edit in RIGHT_EDITS] + [edit + (1,) for edit in RIGHT_EDITS] + [list(edit) for edit in RIGHT_EDITS]
        wrong += [(edit[0].upper(),) + edit[1:] for edit in RIGHT_EDITS] + [((edit[0],),) + edit[1:] for edit in RIGHT_EDITS]
        wrong += [([edit[0]],) + edit[1:] for edit in RIGHT_EDITS] + [("puts", "two", THERE), ("put",), ("wishes", "a", 1)]
        for edit in wrong:
            self.check_edit(InvalidEdit, begun(), edit)
            self.check_edit(InvalidEdit, begun(), ("wish", "near", 1), edit)
        for value in [value for value in EVERY_KIND if not is_right_name(value)]:
            for edit in (("put", value, THERE), ("wish", value, 1), ("value", "one", value), ("unvalue", "one", value)):
                self.check_edit(InvalidEdit, begun(), edit)
            # The form comes ahead of all other parts.
            for edit in (("put", value, None), ("wish", value, None), ("value", None, value), ("unvalue", "no", value)):
                self.check_edit(InvalidEdit, begun(), edit)
        for value in [value for value in EVERY_KIND if not isinstance(value, tuple)] + [[("wish", "near", 1)]]:
            check_error(self, InvalidEdit, begun().apply_all, value)

    def test_parts_of_edits(self):
        unknown = [value for value in EVERY_KIND if value != "one" and value != "far"]
        for value in unknown:
            error = UnknownName(value)
            for edit in (
                ("drop", value), ("row", value, "to", ("a", "a")), ("unrow", value, None, None), ("value", value, "c"),
                ("unvalue", value, "c"), ("forget", value), ("must", value, "one", ("a",)), ("bar", value, None, None),
                ("open", value, "no", ()), ("must", "far", value, ("a",)), ("bar", "far", value, None), ("open", "far", value, ()),
            ):
                self.check_edit(error, begun(), edit)
            if value != "to":
                self.check_edit(error, begun(), ("row", "one", value, ("a", "a")))
                self.check_edit(error, begun(), ("unrow", "one", value, None))
        for value, error in all_wrong(InvalidOperation, lambda told: is_right_row(told, 2, ("a", "b"))) + [(("a", "c"), InvalidOperation)]:
            self.check_edit(error, begun(), ("row", "one", "to", value))
            self.check_edit(error, begun(), ("unrow", "one", "to", value))
        for value, error in all_wrong(InvalidOperation, lambda told: is_right_row(told, 1, ("a", "b"))) + [(("c",), InvalidOperation)]:
            for word in ("must", "bar", "open"):
                self.check_edit(error, begun(), (word, "far", "one", value))
        for value, error in wrong_objects(InvalidDatabase, Database):
            self.check_edit(error, begun(), ("put", "two", value))
            self.check_edit(InvalidOperation, begun(), ("put", "one", value))
        for database in (PATH, SPOTS, Database(("a",)), Database(("a",), to=Table(1)), THERE.with_table("more", Table(0))):
            self.check_edit(InvalidOperation, begun(), ("put", "two", database))
        for value, error in all_wrong_kept(InvalidNumber, lambda told: is_right_number(told, 3)):
            self.check_edit(error, begun(), ("wish", "near", value))
            self.check_edit(InvalidOperation, begun(), ("wish", "far", value))
        self.check_edit(InvalidOperation, begun(), ("wish", "far", 1))
        # A database and a wish can have one name.
        self.assertEqual(begun().apply(("wish", "one", 1), ("put", "far", THERE)), 2)

    def test_too_many(self):
        desk = Desk(SHAPE)
        for at, name in enumerate(("one", "two", "three", "four"), 1):
            self.assertEqual(desk.apply(("put", name, THERE)), at)
        self.check_edit(TooMany(4), desk, ("put", "five", THERE))
        self.check_edit(InvalidOperation, desk, ("put", "four", THERE))
        self.check_edit(InvalidDatabase, desk, ("put", "five", None))
        self.check_edit(InvalidOperation, desk, ("put", "five", POINT))
        self.assertEqual(desk.apply(("drop", "two"), ("put", "five", THERE)), 5)
        desk = Desk(SHAPE)
        desk.apply(("put", "six", MANY_VALUES))
        self.check_edit(TooMany(6), desk, ("value", "six", "g"))
        self.check_edit(TooMany(6), desk, ("unvalue", "six", "f"), ("value", "six", "g"), ("value", "six", "h"))
        self.assertEqual(desk.apply(("unvalue", "six", "f"), ("value", "six", "g")), 2)

    def test_values_that_cannot_go(self):
        alone = Desk({})
        alone.apply(("put", "one", Database(("a",))), ("wish", "far", 0))
        self.check_edit(InvalidOperation, alone, ("unvalue", "one", "a"))
        desk = Desk(SHAPE)
        desk.apply(("put", "one", THERE.with_value("c")), ("put", "two", THERE.with_value("c")), ("wish", "far", 2), ("wish", "near", 1))
        self.check_edit(InvalidOperation, desk, ("unvalue", "one", "a"))
        self.check_edit(InvalidOperation, desk, ("unvalue", "one", "b"))
        for word in ("must", "bar"):
            for wish, row in (("far", ("a", "c")), ("far", ("c", "c")), ("near", ("c",))):
                desk.apply((word, wish, "one", row))
                self.check_edit(InvalidOperation, desk, ("unvalue", "one", "c"))
                # A wish says something of a row of this database alone.
                with desk.trial():
                    desk.apply(("unvalue", "two", "c"))
                with desk.trial():
                    desk.apply(("open", wish, "one", row), ("unvalue", "one", "c"))
                with desk.trial():
                    desk.apply(("forget", wish), ("unvalue", "one", "c"))
                desk.undo()
        self.assertEqual(desk.apply(("unvalue", "one", "c")), 2)

    def test_groups(self):
        desk = begun()
        self.assertEqual((desk.apply(), desk.apply_all(()), len(desk)), (1, 1, 1))
        self.assertEqual(desk.apply(("wish", "near", 1), ("forget", "near")), 2)
        self.assertEqual(desk.log[1], (("wish", "near", 1), ("forget", "near")))
        # A group whose last edit is wrong does nothing, and leaves what was taken back.
        desk.undo()
        self.check_edit(UnknownName("no"), desk, ("wish", "near", 1), ("drop", "one"), ("drop", "no"))
        self.check_edit(UnknownName("no"), desk, ("drop", "no"), None)
        self.check_edit(InvalidEdit, desk, None, ("drop", "no"))
        self.assertEqual(desk.apply(), 1)
        self.assertEqual(desk.redo(), 2)
        desk.undo()
        desk.apply(("value", "one", "a"))
        check_error(self, NothingToUndo(1), desk.redo)
        self.assertEqual(len(desk), 2)

    def test_steps(self):
        desk = begun()
        for at in range(4):
            desk.apply(("wish", "wish" + "abcd"[at], at))
        self.assertEqual((desk.undo(many=0), desk.redo(many=0), desk.undo(), desk.undo(many=3)), (5, 5, 4, 1))
        self.assertEqual(desk.wishes, ("far",))
        self.assertEqual((desk.redo(many=2), desk.wishes), (3, ("far", "wisha", "wishb")))
        for many in (3, 4, 10 ** 39):
            check_error(self, NothingToUndo(many), lambda: desk.redo(many=many))
        for many in (4, 10 ** 39):
            check_error(self, NothingToUndo(many), lambda: desk.undo(many=many))
        wrong = [value for value in EVERY_KIND if isinstance(value, bool) or not isinstance(value, int) or value < 0]
        for many in wrong:
            check_error(self, InvalidNumber(many), lambda: desk.undo(many=many))
            check_error(self, InvalidNumber(many), lambda: desk.redo(many=many))
        self.assertEqual((desk.redo(many=2), desk.undo(many=5), desk.names, desk.wishes, desk.log), (5, 0, (), (), ()))
        check_error(self, NothingToUndo(1), desk.undo)
        self.assertEqual((desk.redo(many=5), str(desk)), (5, "desk of 1 databases, 5 wishes"))
        for call in (desk.undo, desk.redo):
            with self.assertRaises(TypeError):
                call(1)


class WatchTest(DeskCase):
    def test_the_document_says(self):
        desk = Desk({"to": 2})
        desk.apply(("put", "one", THERE), ("wish", "begin", 1), ("must", "begin", "one", ("a",)), ("bar", "begin", "one", ("b",)))
        self.assertIs(desk.watch("begin", "deep one unlike"), True)
        self.assertEqual(list(desk.news()), [(("begin", "deep one unlike"), "gone", True)])
        desk.apply(("put", "two", BACK), ("bar", "begin", "two", ("a",)))
        self.assertEqual(list(desk.news()), [(("begin", "deep one unlike"), True, False)])
        self.assertEqual(list(desk.news()), [(("begin", "deep one unlike"), True, False)])
        desk.undo()
        self.assertEqual(list(desk.news()), [(("begin", "deep one unlike"), False, True)])
        desk.redo()
        self.assertEqual(list(desk.news()), [(("begin", "deep one unlike"), True, False)])

    def test_states(self):
        desk = begun()
        told = {language: desk.watch("far", language) for language in LANGUAGES}
        self.assertEqual(told, ladder(desk.examples("far")))
        self.assertEqual(desk.watched, tuple(("far", language) for language in sorted(LANGUAGES)))
        desk.apply(("forget", "far"))
        self.assertEqual(len(list(desk.news())), 12)
        self.assertEqual(desk.watched[0], ("far", "deep many not"))
        check_error(self, UnknownName("far"), desk.watch, "far", "deep many not")
        self.assertEqual(desk.unwatch("far", "deep many not"), "gone")
        self.assertEqual([pair for pair, _, _ in desk.news()], list(desk.watched))
        desk.apply(("wish", "far", 1))
        self.assertEqual([new for _, _, new in desk.news()], [ladder(desk.examples("far"))[pair[1]] for pair in desk.watched])
        desk.apply(("drop", "one"))
        self.assertEqual({new for _, _, new in desk.news()}, {"gone"})
        self.assertEqual(desk.watch("far", "deep many not"), "gone")
        self.assertEqual(desk.unwatch("far", "deep many not"), "gone")

    def test_news_of_the_last_call_that_did_something(self):
        desk = begun()
        pair = ("far", "flat one plain")
        desk.watch(*pair)
        self.assertEqual(list(desk.news()), [(pair, "gone", True)])
        desk.apply(("must", "far", "one", ("a",)))
        self.assertEqual(list(desk.news()), [(pair, True, False)])
        desk.apply(("must", "far", "one", ("b",)))
        news = [(pair, False, True)]
        for call in (
            desk.apply, lambda: desk.apply_all(()), lambda: desk.undo(many=0), lambda: desk.redo(many=0), desk.twin,
            lambda: desk.watch(*pair), lambda: desk.during(lambda one: one.undo()), lambda: raised_by(desk.apply, None),
            lambda: raised_by(desk.redo), lambda: raised_by(lambda: desk.undo(many=9)),
        ):
            call()
            self.assertEqual(list(desk.news()), news)
        # Pairs that are watched only now are told, too; those that are watched no more are not.
        self.assertIs(desk.watch("far", "deep many not"), True)
        self.assertEqual(list(desk.news()), [(("far", "deep many not"), False, True)] + news)
        self.assertIs(desk.unwatch(*pair), True)
        self.assertEqual(list(desk.news()), [(("far", "deep many not"), False, True)])
        # A group without any effect is a call that did something, too.
        desk.watch(*pair)
        desk.apply(("value", "one", "a"))
        self.assertEqual(list(desk.news()), [])
        # Several steps are one call.
        self.assertEqual(desk.undo(many=3), 1)
        self.assertEqual(list(desk.news()), [])
        self.assertEqual(desk.redo(), 2)
        self.assertEqual(list(desk.news()), [(("far", "deep many not"), True, False), (pair, True, False)])

    def test_new_desks_and_twins(self):
        desk = begun()
        self.assertEqual(list(Desk(SHAPE).news()), [])
        desk.watch("far", "flat one not")
        self.assertEqual(len(list(desk.news())), 1)
        twin = desk.twin()
        self.assertEqual((list(twin.news()), twin.watched), ([], desk.watched))
        twin.undo()
        self.assertEqual(len(list(twin.news())), 1)
        self.assertTrue(inspect.isgenerator(desk.news()))

    def test_watched_pairs(self):
        desk = begun()
        desk.apply(("wish", "near", 2), ("wish", "afar", 0))
        for wish, language in (("near", "flat one not"), ("far", "flat one not"), ("far", "deep one not"), ("afar", "flat many not")):
            desk.watch(wish, language)
            desk.watch(wish, language)
        self.assertEqual(desk.watched, (
            ("afar", "flat many not"), ("far", "deep one not"), ("far", "flat one not"), ("near", "flat one not"),
        ))
        self.assertEqual((len(desk), desk.undo(many=2), len(desk.watched)), (2, 0, 4))
        self.assertEqual([(old, new) for _, old, new in desk.news()], [(True, "gone")] * 4)

    def test_states_that_the_bound_hides(self):
        desk = Desk({"p": 1, "q": 1})
        marked = Database(tuple("abcd"), p=Table(1, ("a",)), q=Table(1, ("b",)))
        desk.apply(("put", "one", marked), ("wish", "far", 1), *[("bar", "far", "one", (value,)) for value in "cd"])
        self.assertEqual({desk.watch("far", language) for language in LANGUAGES}, {True})
        desk.apply(*[("must", "far", "one", (value,)) for value in "ab"])
        self.assertEqual({pair: new for pair, _, new in desk.news()}, {
            ("far", language): told for language, told in ladder(desk.examples("far")).items() if told is not True
        })
        self.assertIn((("far", "deep one not"), True, None), list(desk.news()))
        self.assertIsNone(desk.watch("far", "deep one not"))
        desk.apply(("open", "far", "one", ("a",)))
        self.assertIn((("far", "deep one not"), None, True), list(desk.news()))

    def test_what_the_bound_hides(self):
        desk = Desk({})
        desk.apply(("put", "one", Database(tuple("abc"))), ("wish", "far", 2))
        desk.apply(*[("must", "far", "one", row) for row in all_rows("abc", 2)[:6]])
        for language in LANGUAGES:
            self.assertIs(desk.watch("far", language), ladder(desk.examples("far"))[language])
        self.assertEqual(list(desk.news()), [])
        desk.apply(*[("bar", "far", "one", row) for row in all_rows("abc", 2)[6:]])
        self.assertEqual(list(desk.news()), [
            (("far", language), True, told) for language, told in ladder(desk.examples("far")).items() if told is not True
        ])

    def test_errors(self):
        desk = begun()
        wishes = [(value, UnknownName(value)) for value in EVERY_KIND if value != "far"]
        check_errors(self, desk.watch, [("far", wishes), ("flat one not", WRONG)])
        check_errors(self, desk.paper, [("far", wishes), ("flat one not", WRONG)])
        for call in (desk.examples, desk.ladder):
            check_errors(self, call, [("far", wishes)])
        desk = begun()
        desk.watch("far", "flat one not")
        for value in EVERY_KIND:
            if value != "far":
                check_error(self, InvalidOperation, desk.unwatch, value, "flat one not")
            if not is_right_language(value) or value != "flat one not":
                check_error(self, InvalidOperation, desk.unwatch, "far", value)
        desk.unwatch("far", "flat one not")
        check_error(self, InvalidOperation, desk.unwatch, "far", "flat one not")
        empty = Desk({})
        for call in (empty.examples, empty.ladder, lambda wish: empty.paper(wish, "no")):
            check_error(self, UnknownName("far"), call, "far")
        empty.apply(("wish", "far", 1))
        for call in (empty.examples, empty.ladder, lambda wish: empty.paper(wish, "no")):
            check_error(self, InvalidOperation, call, "far")
        bound = Desk({})
        bound.apply(("put", "one", Database(tuple("abc"))), ("wish", "far", 1), *[("must", "far", "one", (value,)) for value in "abc"])
        check_error(self, TooMany(65536), bound.paper, "far", "deep one not")
        check_error(self, InvalidOperation, bound.paper, "far", "deep one nots")


class TrialTest(DeskCase):
    def test_blocks(self):
        desk = begun()
        desk.apply(("wish", "near", 1))
        desk.undo()
        desk.watch("far", "flat one not")
        news = list(desk.news())
        with desk.trial() as one:
            self.assertIs(one, desk)
            one.apply(("drop", "one"))
            one.watch("far", "deep one not")
            with one.trial() as two:
                two.undo(many=2)
                two.unwatch("far", "flat one not")
                self.assertEqual((len(desk), desk.watched), (0, (("far", "deep one not"),)))
            self.assertEqual((len(desk), desk.names, len(desk.watched)), (2, (), 2))
        self.assertEqual((len(desk), desk.names, desk.watched), (1, ("one",), (("far", "flat one not"),)))
        self.assertEqual(list(desk.news()), news)
        self.assertEqual(desk.redo(), 2)

    def test_blocks_that_end_by_an_error(self):
        desk, other = begun(), begun()
        for error in (KeyError, ValueError, UnknownName):
            with self.assertRaises(error):
                with desk.trial():
                    desk.apply(("drop", "one"), ("forget", "far"))
                    with self.assertRaises(TypeError):
                        with desk.trial():
                            desk.undo(many=2)
                            raise TypeError("inner")
                    self.assertEqual(len(desk), 2)
                    raise error("outer")
            self.assertEqual((desk == other, desk.log), (True, other.log))
        with self.assertRaises(NothingToUndo):
            desk.during(lambda one: one.apply(("drop", "one")) and one.undo(many=9))
        self.assertEqual((desk == other, len(desk)), (True, 1))

    def test_the_beginning_of_the_block(self):
        desk = begun()
        block = desk.trial()
        desk.apply(("wish", "near", 1))
        with block:
            desk.undo()
        self.assertEqual(desk.wishes, ("far", "near"))
        with block:
            desk.apply(("forget", "near"))
            with block:
                desk.apply(("forget", "far"))
            self.assertEqual(desk.wishes, ("far",))
        self.assertEqual(desk.wishes, ("far", "near"))

    def test_during(self):
        desk = begun()
        self.assertEqual(desk.during(len), 1)
        self.assertEqual(desk.during(lambda one: one.apply(("forget", "far"))), 2)
        self.assertIs(desk.during(lambda one: one), desk)
        self.assertIsNone(desk.during(lambda one: None))
        self.assertEqual(desk.during(lambda one: one.during(lambda two: two.undo()) + len(one)), 1)
        self.assertEqual((len(desk), desk.wishes), (1, ("far",)))

    def test_twins(self):
        desk = begun()
        desk.apply(("wish", "near", 1))
        desk.watch("near", "flat one not")
        desk.undo()
        twin = desk.twin()
        self.assertEqual((twin == desk, twin.log, twin.watched, twin.shape), (True, desk.log, desk.watched, desk.shape))
        self.assertIsNot(twin, desk)
        self.assertEqual(twin.redo(), 2)
        self.assertEqual((len(desk), desk.redo(), twin.undo(many=2), len(desk)), (1, 2, 0, 2))
        desk.unwatch("near", "flat one not")
        self.assertEqual(twin.watched, (("near", "flat one not"),))
        with desk.trial():
            told = desk.twin()
            desk.apply(("drop", "one"))
            self.assertEqual((len(told), told.names), (2, ("one",)))
            told.apply(("put", "two", THERE))
        self.assertEqual((told.names, desk.names), (("one", "two"), ("one",)))


def is_right_shape(value):
    if not isinstance(value, dict) or len(value) > 4:
        return False
    return all(is_right_name(name) and is_right_number(many, 3) for name, many in value.items())


class EqualityTest(DeskCase):
    def test_equality(self):
        desk = begun()
        self.assertTrue(desk == begun() and not desk != begun())
        other = Desk(dict(SHAPE))
        other.apply(("wish", "far", 1))
        other.apply(("put", "one", THERE))
        self.assertFalse(desk == other)
        other.apply(("bar", "far", "one", ("b",)), ("row", "one", "to", ("b", "a")), ("value", "one", "c"))
        self.assertFalse(desk == other)
        other.apply(("unvalue", "one", "c"))
        other.watch("far", "flat one not")
        self.assertTrue(desk == other)
        for edit in (
            ("must", "far", "one", ("b",)), ("open", "far", "one", ("b",)), ("bar", "far", "one", ("a",)), ("wish", "near", 1),
            ("forget", "far"), ("put", "two", THERE), ("drop", "one"), ("unrow", "one", "to", ("b", "a")), ("value", "one", "c"),
        ):
            self.assertFalse(desk.during(lambda one: one.apply(edit) and one == other), edit)
        self.assertTrue(desk.during(lambda one: one.apply(("value", "one", "a")) and one == other))
        self.assertTrue(Desk({}) == Desk({}) and Desk({"p": 1, "q": 2}) == Desk({"q": 2, "p": 1}))
        for shape in ({}, {"to": 1}, {"two": 2}, {"to": 2, "p": 1}):
            self.assertFalse(Desk(SHAPE) == Desk(shape))
        first, second = Desk({}), Desk({})
        first.apply(("wish", "far", 1))
        second.apply(("wish", "far", 2))
        self.assertFalse(first == second)
        for value in EVERY_KIND:
            if not isinstance(value, Desk):
                self.assertIs(desk == value, False)
                self.assertIs(desk != value, True)

    def test_shapes(self):
        for shape in ({}, {"to": 0}, {"d": 3, "c": 2, "b": 1, "a": 0}):
            desk = Desk(shape)
            self.assertEqual(list(desk.shape.items()), sorted(shape.items()))
            self.assertEqual((desk.names, desk.wishes, desk.log, desk.watched, len(desk)), ((), (), (), (), 0))
        wrong = all_wrong(InvalidOperation, is_right_shape) + [
            (value, InvalidOperation)
            for value in ({"to": 4}, {"to": -1}, {"to": True}, {"To": 1}, {1: 1}, {"to": "1"}, {name: 1 for name in "abcde"}, {None: 1},
                          {("a",): 1}, {"to": None}, {"a": 1, "": 1})
        ]
        check_errors(self, Desk, [({}, wrong)])

    def test_copies(self):
        shape = {"to": 2}
        desk = Desk(shape)
        shape["to"] = 1
        shape["more"] = 1
        desk.shape.clear()
        self.assertEqual(desk.shape, {"to": 2})
        desk.apply(("put", "one", THERE), ("wish", "far", 1))
        desk.ladder("far").clear()
        desk["one"].tables.clear()
        self.assertEqual(len(desk.ladder("far")), 12)
        self.assertEqual(desk["one"], THERE)

    def test_names(self):
        desk = begun()
        for value in EVERY_KIND:
            self.assertIs(value in desk, isinstance(value, str) and value == "one", show(value))
            if not (isinstance(value, str) and value == "one"):
                check_error(self, UnknownName(value), lambda name: desk[name], value)

    def test_desks_are_not_iterated_over(self):
        for desk in (Desk({}), begun()):
            with self.assertRaises(TypeError):
                iter(desk)
            with self.assertRaises(TypeError):
                list(desk)


if __name__ == "__main__":
    unittest.main()
