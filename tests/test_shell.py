"""The shell: [0.2] to [0.4], [0.20], stage 16."""

import inspect
import random
import unittest

from askable.ask.languages import LANGUAGES
from askable.ask.rules import Query
from askable.base.databases import Database
from askable.base.tables import Table
from askable.desk.desk import Desk
from askable.errors import (
    InvalidCommand, InvalidEdit, InvalidNumber, InvalidOperation, NothingToUndo, ParseError, TooMany, UnknownName,
)
from askable.text.formats import format_database, parse_query
from askable.text.shell import Shell
from askable.wish.ladder import ladder
from oracles import is_query_of, right_misfits
from support import BACK, EVERY_KIND, PATH, POINT, THERE, check_error, check_errors, wrong_objects
from test_desk import LENGTHS, MANY_VALUES, Model, begun, raised_by, some_edit

SHAPE = {"to": 2}


def text_of(edit):
    """The command of an edit, from the words of the document."""
    parts = []
    for part in edit:
        if isinstance(part, Database):
            return " ".join(parts) + "\n" + format_database(part)
        parts.append("(" + ",".join(part) + ")" if isinstance(part, tuple) else str(part))
    return " ".join(parts)


RIGHT_LINES = [
    "drop one", "row one to (b,a)", "unrow one to (a,b)", "value one c", "unvalue one c", "wish near 2", "forget far",
    "must far one (a)", "bar far one (a)", "open far one (b)", "undo 0", "undo 1", "redo 0", "names", "wishes", "show one",
    "ladder far", "ask far flat one plain", "ask far deep many not", "put two\n" + format_database(THERE),
]
MARKS = {True: "yes", False: "no", None: "?"}


def run_error(test, error, shell, line):
    """Test that a command raises an error and changes nothing."""
    desk, state = shell.desk.twin(), (shell.log, len(shell), shell.desk.log)
    check_error(test, error, shell.run, line)
    test.assertEqual((shell.log, len(shell), shell.desk.log), state)
    test.assertTrue(shell.desk == desk)


class ShellTest(unittest.TestCase):
    def test_the_document_says(self):
        shell = Shell(Desk({"at": 2}))
        lines = ("put one\n" + format_database(POINT), "wish far 2", "must far one (a,b)", "bar far one (a,a)", "show one")
        self.assertEqual(list(shell.run_all(lines)), ["ok"] * 4 + ["values a b\nat 2: (a,a)"])
        self.assertEqual(shell.run("ask far flat one plain"), "never")
        self.assertEqual(parse_query(shell.run("ask far flat one unlike")).language, "flat one unlike")
        self.assertEqual(shell.log, lines + ("ask far flat one plain", "ask far flat one unlike"))
        self.assertEqual(len(shell), 7)

    def test_each_command(self):
        for line in RIGHT_LINES:
            desk = begun()
            shell = Shell(desk)
            answer = shell.run(line)
            self.assertIsInstance(answer, str)
            self.assertEqual(shell.log, (line,))
            word = line.split()[0]
            if word in LENGTHS or word in ("undo", "redo"):
                self.assertEqual(answer, "ok")
        shell = Shell(Desk(SHAPE))
        self.assertEqual([shell.run("names"), shell.run("wishes")], ["-", "-"])
        shell.run("put two\n" + format_database(THERE))
        shell.run("put one\n" + format_database(BACK))
        shell.run("wish far 1")
        shell.run("wish afar 0")
        self.assertEqual([shell.run("names"), shell.run("wishes")], ["one two", "afar far"])
        self.assertEqual(shell.run("show two"), "values a b\nto 2: (a,b)")
        self.assertEqual(shell.run("undo 3"), "ok")
        self.assertEqual([shell.run("names"), shell.run("wishes"), len(shell.desk)], ["two", "-", 1])
        self.assertEqual(shell.run("redo 2"), "ok")
        self.assertEqual([shell.run("names"), shell.run("wishes"), len(shell.desk)], ["one two", "far", 3])
        self.assertEqual([shell.run("redo 1"), shell.run("must afar one ()")], ["ok", "ok"])
        self.assertEqual(shell.desk.examples("afar").cases, ((BACK, ((),), ()), (THERE, (), ())))

    def test_it_does_what_the_desk_does(self):
        for seed in range(12):
            rng = random.Random(seed)
            shape = ({}, {"to": 2}, {"p": 1, "t": 0}, {"to": 2, "p": 1})[seed // 3]
            desk, model = Desk(shape), Model(shape)
            other = Desk(shape)
            shell = Shell(desk)
            lines = []
            for _ in range(80):
                edit = some_edit(rng, model)
                if rng.random() < 0.75:
                    line, call = text_of(edit), lambda: other.apply(edit)
                    raised_by(model.apply, (edit,))
                else:
                    word, many = rng.choice(("undo", "undo", "redo")), rng.choice((0, 1, 1, 2, 30))
                    line, call = f"{word} {many}", lambda: getattr(other, word)(many=many)
                    raised_by(model.step, many, word == "undo")
                told, right = raised_by(shell.run, line), raised_by(call)
                if right[0] is None:
                    self.assertEqual(told, (None, "ok"))
                    lines.append(line)
                else:
                    self.assertEqual(told, right, line)
                self.assertTrue(desk == other)
                self.assertEqual((desk.log, len(desk)), (other.log, len(other)))
            self.assertEqual((shell.log, len(shell)), (tuple(lines), len(lines)))
            self.check_answers(shell, other)

    def check_answers(self, shell, desk):
        self.assertEqual(shell.run("names"), " ".join(desk.names) or "-")
        self.assertEqual(shell.run("wishes"), " ".join(desk.wishes) or "-")
        for name in desk.names:
            self.assertEqual(shell.run(f"show {name}"), format_database(desk[name]))
        for wish in desk.wishes if desk.names else ():
            examples = desk.examples(wish)
            told = ladder(examples)
            lines = [f"{language} {MARKS[told[language]]}" for language in sorted(LANGUAGES)]
            self.assertEqual(shell.run(f"ladder {wish}"), "\n".join(lines))
            for language in LANGUAGES:
                answer = raised_by(shell.run, f"ask {wish} {language}")
                if answer == (None, "never"):
                    self.assertIs(told[language], False)
                elif answer[0] is None:
                    query = parse_query(answer[1])
                    self.assertIs(told[language], True)
                    self.assertTrue(is_query_of(query, language))
                    self.assertEqual(right_misfits(examples, query), [])
                else:
                    self.assertEqual(answer, (TooMany, {"limit": 65536}))

    def test_desk(self):
        desk = begun()
        shell, other = Shell(desk), Shell(desk)
        self.assertIs(shell.desk, desk)
        desk.apply(("wish", "near", 1))
        self.assertEqual(shell.run("wishes"), "far near")
        shell.run("forget far")
        self.assertEqual((desk.wishes, other.run("wishes")), (("near",), "near"))
        self.assertEqual((len(shell), len(other)), (2, 1))
        with desk.trial():
            shell.run("drop one")
        self.assertEqual((desk.names, len(shell)), (("one",), 3))
        check_errors(self, Shell, [(desk, wrong_objects(InvalidOperation, Desk))])
        for call in (iter, list):
            with self.assertRaises(TypeError):
                call(shell)

    def test_ladder_with_what_the_bound_hides(self):
        desk = Desk({"p": 1, "q": 1})
        desk.apply(("put", "one", Database(tuple("abcd"), p=Table(1, ("a",)), q=Table(1, ("b",)))), ("wish", "far", 1))
        desk.apply(*[(word, "far", "one", (value,)) for value, word in zip("abcd", ("must", "must", "bar", "bar"))])
        told = ladder(desk.examples("far"))
        self.assertEqual(set(told.values()), {True, False, None})
        shell = Shell(desk)
        self.assertEqual(shell.run("ladder far"), "\n".join(f"{word} {MARKS[told[word]]}" for word in sorted(LANGUAGES)))
        self.assertIn("deep one unlike ?", shell.run("ladder far").split("\n"))
        run_error(self, TooMany(65536), shell, "ask far deep one not")
        self.assertEqual(shell.run("ask far flat one not"), "never")


class CommandTest(unittest.TestCase):
    def test_every_kind(self):
        right = {"names"} | {value for value in EVERY_KIND if value in ("drop one", "ask far flat one plain", "undo 1")}
        for value in EVERY_KIND:
            shell = Shell(begun())
            if isinstance(value, str) and value in right:
                shell.run(value)
            elif isinstance(value, str) and value == "put one\nvalues a":
                run_error(self, InvalidOperation, shell, value)
            else:
                run_error(self, InvalidCommand, shell, value)

    def test_lines_that_are_no_commands(self):
        wrong = [
            "", " ", "\n", "put", "put one", "put  one\nvalues a", "put one \nvalues a", " put one\nvalues a", "put One\nvalues a",
            "put one two\nvalues a", "put\nvalues a", "put \nvalues a", "put one\tvalues a", "Put one\nvalues a", "puts one\nvalues a",
            "name", "names one", "wishes far", "show", "show one two", "ladder", "ladder far one", "ask far", "ask far flat one",
            "ask far flat one plain not", "ask far one flat plain", "ask far flat one Plain", "ask  far flat one plain", "ask flat one plain",
            "ask far flat  one plain", "ask far far flat one plain", "undo", "redo", "undo -1", "undo +1", "undo 01", "undo 00", "undo 1.0",
            "undo one", "undo 1 1", "undo " + "1" * 41, "undo " + "0" * 40, "redo 1_0", "redo 0x1", "wish near", "wish near one", "wish near 01",
            "wish near 1 1", "wish near -1", "wish Near 1", "wish 1 near", "drop", "drop One", "drop one one", "drop abcdefghi", "row one to",
            "row one to a", "row one to (a, b)", "row one to (a,b) ", "row one to (a,b", "row one to a,b)", "row one to (a,B)", "row one to ((a))",
            "row one to (a,)", "row one to (,)", "row one (a,b)", "row one to (a,b) (a,b)", "row one to ( )", "row one to ('a','b')",
            "must far one", "must far one a", "must far one (ab", "must far one ba)", "must far one bab", "must far one [a]",
            "must far one )a(", "must far one (a) (b)", "must far (a)", "open one (a)", "value one", "value one A", "value one (a)",
            "value one c d", "unvalue one 1", "forget", "forget Far", "forget far far", "quit", "apply", "len", "watch far flat one plain",
        ]
        for line in wrong:
            run_error(self, InvalidCommand, Shell(begun()), line)
        for line in RIGHT_LINES:
            for other in (line + " ", " " + line, line.replace(" ", "  ", 1), line.upper(), line.replace(" ", "\t", 1)):
                if other != line and not (line.startswith("put") and other == line + " "):
                    run_error(self, InvalidCommand, Shell(begun()), other)
            if not line.startswith("put"):
                for other in (line + "\n", line + "\nvalues a", "\n" + line, line.replace(" ", "\n", 1)):
                    if other != line:
                        run_error(self, InvalidCommand, Shell(begun()), other)

    def test_numbers(self):
        shell = Shell(begun())
        most = 10 ** 40 - 1
        run_error(self, NothingToUndo(most), shell, f"undo {most}")
        run_error(self, NothingToUndo(most), shell, f"redo {most}")
        run_error(self, InvalidNumber(most), shell, f"wish near {most}")
        run_error(self, InvalidNumber(4), shell, "wish near 4")
        run_error(self, InvalidCommand, shell, f"undo {10 ** 40}")
        self.assertEqual([shell.run("undo 0"), shell.run("wish near 0"), shell.run("wish nears 3")], ["ok"] * 3)

    def test_put(self):
        text = format_database(THERE)
        for line, error in (
            ("put two\n", ParseError), ("put two\n\n", ParseError), ("put two\n" + text + "\n", ParseError), ("put two\n" + text + " ", ParseError),
            ("put two\n\n" + text, ParseError), ("put two\nvalues b a\nto 2: -", ParseError), ("put one\nvalues", ParseError),
            ("put One\nvalues", InvalidCommand), ("put one two\n", InvalidCommand), ("put one\n" + text, InvalidOperation),
            ("put two\n" + format_database(PATH), InvalidOperation), ("put two\nvalues a", InvalidOperation),
        ):
            run_error(self, error, Shell(begun()), line)
        shell = Shell(begun())
        for name in ("two", "three", "four"):
            self.assertEqual(shell.run(f"put {name}\n{text}"), "ok")
        run_error(self, TooMany(4), shell, "put five\n" + text)
        run_error(self, ParseError, shell, "put five\n" + text + "x")
        self.assertEqual(shell.desk["two"], THERE)

    def test_errors_of_what_is_called(self):
        for line, error in (
            ("drop two", UnknownName("two")), ("row two to (a,b)", UnknownName("two")), ("row one too (a,b)", UnknownName("too")),
            ("row one to (a)", InvalidOperation), ("unrow one to (a,b,a)", InvalidOperation), ("row one to (a,b,a,b)", InvalidOperation),
            ("row one to (c,a)", InvalidOperation), ("value two c", UnknownName("two")), ("unvalue one a", InvalidOperation),
            ("wish far 1", InvalidOperation), ("forget near", UnknownName("near")), ("must near one (a)", UnknownName("near")),
            ("bar far two (a)", UnknownName("two")), ("open far one ()", InvalidOperation), ("undo 2", NothingToUndo(2)),
            ("redo 1", NothingToUndo(1)), ("show two", UnknownName("two")), ("ladder near", UnknownName("near")),
            ("ask near flat one not", UnknownName("near")),
        ):
            run_error(self, error, Shell(begun()), line)
        empty = Shell(Desk(SHAPE))
        empty.run("wish far 1")
        run_error(self, InvalidOperation, empty, "ladder far")
        run_error(self, InvalidOperation, empty, "ask far flat one not")
        run_error(self, UnknownName("one"), empty, "must far one (a,b,c,d)")
        full = Shell(Desk(SHAPE))
        full.run("put six\n" + format_database(MANY_VALUES))
        run_error(self, TooMany(6), full, "value six g")
        self.assertEqual(full.run("value six f"), "ok")
        # What a shell cannot say are edits of another form.
        check_error(self, InvalidEdit, full.desk.apply, ("value", "six", "G"))

    def test_queries_without_rules(self):
        shell = Shell(Desk(SHAPE))
        for line in ("put one\n" + format_database(THERE), "wish far 2", "bar far one (a,a)"):
            shell.run(line)
        query = parse_query(shell.run("ask far flat many plain"))
        self.assertEqual(query.columns, 2)
        self.assertEqual(right_misfits(shell.desk.examples("far"), query), [])
        self.assertIsInstance(query, Query)


class RunAllTest(unittest.TestCase):
    def test_each_is_done_when_its_answer_is_asked_for(self):
        desk = begun()
        shell = Shell(desk)
        told = shell.run_all(("forget far", "drop one", "nothing", "names"))
        self.assertTrue(inspect.isgenerator(told))
        self.assertEqual((len(shell), desk.wishes), (0, ("far",)))
        self.assertEqual((next(told), desk.wishes, desk.names, len(shell)), ("ok", (), ("one",), 1))
        self.assertEqual((next(told), desk.names, len(shell)), ("ok", (), 2))
        with self.assertRaises(InvalidCommand):
            next(told)
        self.assertEqual((shell.log, len(desk)), (("forget far", "drop one"), 3))
        self.assertEqual(list(shell.run_all(())), [])
        self.assertEqual(list(shell.run_all(("names", "wishes"))), ["-", "-"])

    def test_errors(self):
        shell = Shell(begun())
        for value in EVERY_KIND:
            if not isinstance(value, tuple):
                self.assertTrue(inspect.isgenerator(shell.run_all(value)))
                check_error(self, InvalidOperation, shell.run_all, value)
            elif value and not isinstance(value[0], str):
                check_error(self, InvalidCommand, shell.run_all, value)
        check_error(self, InvalidOperation, shell.run_all, ["names"])
        self.assertEqual(shell.log, ())


if __name__ == "__main__":
    unittest.main()
