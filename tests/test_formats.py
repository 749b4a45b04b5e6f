"""Texts of tables, databases, rules and queries: [0.1], [0.4], [0.20], stage 16."""

import random
import re
import unittest

from askable.ask.rules import Query, Rule
from askable.base.databases import Database
from askable.base.tables import Table
from askable.errors import InvalidDatabase, InvalidQuery, InvalidRule, InvalidTable, ParseError
from askable.text.formats import (
    format_database, format_query, format_rule, format_table, parse_database, parse_query, parse_rule, parse_table,
)
from support import (
    EVERY_KIND, NOWHERE, PATH, POINT, TIP, all_rows, check_error, is_right_name, random_database, random_rule, wrong_objects,
)

NAMES = ("a", "b", "if", "not", "in", "out", "unlike", "values", "x", "abcdefgh")
LETTERS = "abxyz(),: -!=\n0123if "


def right_row(text):
    """The row of a text, or None, by the words of the document."""
    if not re.fullmatch(r"\(([a-z]{1,8}(,[a-z]{1,8})*)?\)", text):
        return None
    return tuple(text[1:-1].split(",")) if text != "()" else ()


def right_table(text):
    if not isinstance(text, str) or not re.fullmatch(r"[0-3]: (-|\([a-z,]*\)( \([a-z,]*\))*)", text):
        return None
    columns, rest = int(text[0]), text[3:]
    rows = [] if rest == "-" else [right_row(part) for part in rest.split(" ")]
    if None in rows or rows != sorted(set(rows)) or any(len(row) != columns for row in rows):
        return None
    return Table(columns, *rows)


def right_database(text):
    if not isinstance(text, str) or not re.fullmatch(r"values( [a-z]{1,8}){1,6}(\n[a-z]{1,8} [^\n]*){0,4}", text):
        return None
    first, *lines = text.split("\n")
    values = first.split(" ")[1:]
    names = [line.split(" ", 1)[0] for line in lines]
    tables = [right_table(line.split(" ", 1)[1]) for line in lines]
    if values != sorted(set(values)) or names != sorted(set(names)) or None in tables:
        return None
    if any(not set(table.domain) <= set(values) for table in tables):
        return None
    return Database.of(tuple(values), dict(zip(names, tables)))


def right_atom(text):
    told = re.fullmatch(r"([a-z]{1,8})!=([a-z]{1,8})", text)
    if told:
        return ("unlike", *told.groups()) if told[1] <= told[2] else None
    told = re.fullmatch(r"(not )?([a-z]{1,8})(\([a-z,]*\))", text)
    row = right_row(told[3]) if told else None
    return ("out" if told[1] else "in", told[2], row) if row is not None and len(row) <= 3 else None


def right_rule(text):
    if not isinstance(text, str) or "\n" in text or not re.fullmatch(r"\([a-z,]*\)( if .+)?", text):
        return None
    head, *rest = text.split(" if ", 1)
    row = right_row(head)
    atoms = [right_atom(part) for part in rest[0].split(", ")] if rest else []
    if row is None or len(row) > 3 or None in atoms or atoms != sorted(set(atoms)):
        return None
    widths = {(atom[1], len(atom[2])) for atom in atoms if atom[0] != "unlike"}
    names = set(row) | {name for atom in atoms for name in (atom[1:] if atom[0] == "unlike" else atom[2])}
    if len(dict(widths)) < len(widths) or len(names) > 16:
        return None
    return Rule(row, *atoms)


def right_query(text):
    if not isinstance(text, str) or not re.fullmatch(r"[0-3](\n[^\n]*)*", text):
        return None
    columns, *lines = text.split("\n")
    rules = [right_rule(line) for line in lines]
    if None in rules or any(len(rule.head) != int(columns) for rule in rules):
        return None
    places = [(rule.head, rule.atoms) for rule in rules]
    widths = {pair for rule in rules for pair in rule.tables.items()}
    if places != sorted(set(places)) or len(dict(widths)) < len(widths):
        return None
    return Query(int(columns), *rules)


PARSERS = {parse_table: right_table, parse_database: right_database, parse_rule: right_rule, parse_query: right_query}
FORMATS = {parse_table: format_table, parse_database: format_database, parse_rule: format_rule, parse_query: format_query}


def told_rows(rows):
    return " ".join("(" + ",".join(row) + ")" for row in rows) if rows else "-"


def told_atom(atom):
    if atom[0] == "unlike":
        return atom[1] + "!=" + atom[2]
    return {"in": "", "out": "not "}[atom[0]] + atom[1] + "(" + ",".join(atom[2]) + ")"


def told_rule(rule):
    atoms = ", ".join(told_atom(atom) for atom in rule.atoms)
    return told_rows([rule.head]) + (" if " if atoms else "") + atoms


def some_tables(many, seed):
    rng = random.Random(seed)
    for _ in range(many):
        columns = rng.randint(0, 3)
        rows = all_rows(rng.sample(NAMES, 3), columns)
        yield Table(columns, *rng.sample(rows, rng.randint(0, min(4, len(rows)))))


def some_databases(many, seed):
    rng = random.Random(seed)
    for _ in range(many):
        values = tuple(rng.sample(NAMES, rng.randint(1, 6)))
        tables = {}
        for name in rng.sample(NAMES, rng.randint(0, 4)):
            columns = rng.randint(0, 3)
            rows = all_rows(values, columns)
            tables[name] = Table(columns, *rng.sample(rows, rng.randint(0, min(3, len(rows)))))
        yield Database.of(values, tables)


def some_rules(many, seed):
    rng = random.Random(seed)
    for at in range(many):
        columns = rng.randint(0, 3)
        names = rng.sample(NAMES, 4)
        rule = random_rule(rng, columns, 5)
        atoms = []
        tables = dict(zip(("none", "one", "two", "three"), rng.sample(NAMES, 4)))
        for atom in rule.renamed(dict(zip(rule.variables, names))):
            atoms.append(atom if atom[0] == "unlike" else (atom[0], tables[atom[1]], atom[2]))
        yield Rule(rule.renamed(dict(zip(rule.variables, names))).head, *atoms)


def some_queries(many, seed):
    rng = random.Random(seed)
    for _ in range(many):
        columns = rng.randint(0, 3)
        yield Query(columns, *[random_rule(rng, columns, 3) for _ in range(rng.randint(0, 3))])


class FormatTest(unittest.TestCase):
    def check(self, values, shown, parse):
        texts = {}
        for value in values:
            text = FORMATS[parse](value)
            self.assertEqual(text, shown(value))
            self.assertEqual(parse(text), value)
            self.assertIs(parse(text).__class__, value.__class__)
            self.assertEqual(PARSERS[parse](text), value)
            if text in texts:
                self.assertEqual(texts[text], value)
            texts[text] = value

    def test_tables(self):
        def shown(table):
            return str(table.columns) + ": " + told_rows(table.rows)

        self.check(list(some_tables(300, 1)), shown, parse_table)
        self.assertEqual(format_table(Table(0)), "0: -")
        self.assertEqual(format_table(Table(0, ())), "0: ()")
        self.assertEqual(format_table(Table(3)), "3: -")
        self.assertEqual(format_table(Table(2, ("b", "a"), ("a", "b"))), "2: (a,b) (b,a)")
        self.assertEqual(format_table(Table(1, ("not",), ("if",))), "1: (if) (not)")

    def test_databases(self):
        def shown(database):
            lines = ["values " + " ".join(database.domain)]
            for name in sorted(database.tables):
                lines.append(name + " " + str(database[name].columns) + ": " + told_rows(database[name].rows))
            return "\n".join(lines)

        self.check(list(some_databases(200, 2)), shown, parse_database)
        self.assertEqual(format_database(Database(("a",))), "values a")
        self.assertEqual(format_database(POINT), "values a b\nat 2: (a,a)")
        told = Database.of(("values", "if"), {"values": Table(0, ()), "not": Table(1), "a": Table(1, ("values",))})
        self.assertEqual(format_database(told), "values if values\na 1: (values)\nnot 1: -\nvalues 0: ()")

    def test_rules(self):
        self.check(list(some_rules(300, 3)), told_rule, parse_rule)
        self.assertEqual(format_rule(TIP), "(x) if edge(x,y), edge(y,z), x!=z")
        self.assertEqual(format_rule(Rule(())), "()")
        self.assertEqual(format_rule(Rule(("x", "x"))), "(x,x)")
        self.assertEqual(format_rule(Rule((), ("in", "t", ()), ("out", "t", ()))), "() if t(), not t()")
        odd = Rule(("if", "not"), ("in", "if", ("if",)), ("in", "not", ("not",)), ("out", "not", ("if",)), ("unlike", "not", "if"))
        self.assertEqual(format_rule(odd), "(if,not) if if(if), not(not), not not(if), if!=not")
        self.assertEqual(parse_rule("(if,not) if if(if), not(not), not not(if), if!=not"), odd)
        self.assertEqual(format_rule(Rule(("x",), ("unlike", "x", "x"))), "(x) if x!=x")
        wide = Rule((), *[("in", "three", (one, two, three)) for one, two, three in all_rows("abcdefghijklmnop", 3)])
        self.assertEqual(parse_rule(format_rule(wide)), wide)

    def test_queries(self):
        def shown(query):
            return "\n".join([str(query.columns)] + [told_rule(rule) for rule in query.rules])

        self.check(list(some_queries(200, 4)), shown, parse_query)
        self.assertEqual(format_query(Query(3)), "3")
        self.assertEqual(format_query(Query(0, Rule(()))), "0\n()")
        self.assertEqual(format_query(NOWHERE), "2\n(x,y) if not at(x,y)")
        self.assertEqual(parse_query("1\n(x)\n(y) if edge(x,y)"), Query(1, Rule(("y",), ("in", "edge", ("x", "y"))), Rule(("x",))))

    def test_errors(self):
        for call, error, kind in (
            (format_table, InvalidTable, Table), (format_database, InvalidDatabase, Database), (format_rule, InvalidRule, Rule),
            (format_query, InvalidQuery, Query),
        ):
            for value, wrong in wrong_objects(error, kind):
                check_error(self, wrong, call, value)


class ParseTest(unittest.TestCase):
    def test_every_kind(self):
        for parse, right in PARSERS.items():
            for value in EVERY_KIND:
                if isinstance(value, str) and right(value) is not None:
                    self.assertEqual(parse(value), right(value))
                else:
                    check_error(self, ParseError, parse, value)

    def test_one_sign_otherwise(self):
        rng = random.Random(5)
        for parse, values in (
            (parse_table, some_tables(60, 6)), (parse_database, some_databases(60, 7)), (parse_rule, some_rules(60, 8)),
            (parse_query, some_queries(60, 9)),
        ):
            for value in values:
                text = FORMATS[parse](value)
                for at in range(len(text) + 1):
                    sign = rng.choice(LETTERS)
                    for other in (text[:at] + text[at + 1:], text[:at] + sign + text[at:], text[:at] + sign + text[at + 1:],
                                  text[:at] + text[at:at + 2][::-1] + text[at + 2:]):
                        self.check_text(parse, other)

    def check_text(self, parse, text):
        right = PARSERS[parse](text)
        if right is None:
            check_error(self, ParseError, parse, text)
        else:
            self.assertEqual(parse(text), right)
            self.assertEqual(FORMATS[parse](right), text)

    def test_wrong_texts(self):
        for parse, texts in (
            (parse_table, (
                "", ":", "1", "1:", "1: ", "1:(a)", "1:  (a)", "1: (a) ", " 1: (a)", "1: (a)\n", "01: (a)", "4: -", "-1: -", "+1: -",
                "1: (b) (a)", "1: (a) (a)", "1: (a,b)", "1: ()", "0: (a)", "0: () ()", "1: (A)", "1: (a )", "1: (abcdefghi)", "1: - -",
                "1: (a) -", "1: -(a)", "1: (a)(b)", "1: (a),(b)", "2: (a, b)", "2: (a,)", "2: (,)", "1: ((a))", "1: a", "One: -", "1 : -",
                "1: (a", "1: a)", "x 1: -", "10: -", "1.0: -",
            )),
            (parse_database, (
                "", "values", "values ", "values  a", "values a ", " values a", "values b a", "values a a", "values A", "value a",
                "values a\n", "values a\n\n", "\nvalues a", "values a\np", "values a\np ", "values a\np 1:", "values a\np 1: (b)",
                "values a\nq 1: -\np 1: -", "values a\np 1: -\np 1: -", "values a\np 1: -\n", "values a\n p 1: -", "values a\np  1: -",
                "values a\nP 1: -", "values a b c d e f g", "values a\na 0: -\nb 0: -\nc 0: -\nd 0: -\ne 0: -", "values a\np 1: (a) ",
                "values a\r\np 1: -", "values a\np 4: -", "values a p 1: -", "values a,b", "values (a)", "values abcdefghi",
            )),
            (parse_rule, (
                "", "x", "(x", "x)", "(x) ", " (x)", "(x) if", "(x) if ", "(x)if e(x)", "(x)  if e(x)", "(x) if  e(x)", "(x) if e(x) ",
                "(x) if e(x),e(y)", "(x) if e(x),  e(y)", "(x) if e(y), e(x)", "(x) if e(x), e(x)", "(x) if e(x), ", "(x) if , e(x)",
                "(x) if not e(x), e(x)", "(x) if x!=y, e(x)", "(x) if y!=x", "(x) if x != y", "(x) if x!=", "(x) if !=x", "(x) if x!=y!=z",
                "(x) if e(x), e(x,y)", "(x) if e(x), not e()", "(w,x,y,z)", "(x) if e(w,x,y,z)", "(x) if note(x", "(x) if not", "(x) if not ",
                "(x) if not not not(x)", "(x) if not  e(x)", "(x) if note (x)", "(x) if e (x)", "(x) if (x)", "(x) if e", "(x) if e(x)(y)",
                "(x) if if e(x)", "(x) if e(x) if e(y)", "(X)", "(x,)", "(,x)", "(x) if e(X)", "(x) if E(x)", "(x)\n", "(x) if e(x)\n",
                "(x) or e(x)", "(x) if not x!=y", "() if " + ", ".join(f"e({letter})" for letter in "abcdefghijklmnopq"),
            )),
            (parse_query, (
                "", "4", "-1", "01", "1 ", " 1", "1\n", "\n1", "1\n\n(x)", "1\n(x)\n", "1\n(x,y)", "0\n(x)", "1\n(y)\n(x)", "1\n(x)\n(x)",
                "1 (x)", "(x)", "1\n(x) if e(x)\n(x)", "1\n(x)\n(y) if e(", "1\n (x)", "1\n(x) ", "1\r\n(x)", "1\n(x) if e(x)\n(y) if e(x,y)",
                "1\n(x) if e(x), x!=y\n(x) if e(x), not e(x)", "1\n(x) if not e(y)\n(x) if e(y)",
            )),
        ):
            for text in texts:
                self.assertIsNone(PARSERS[parse](text), text)
                check_error(self, ParseError, parse, text)

    def test_random_texts(self):
        rng = random.Random(10)
        words = ["(a)", "(x,y)", "1: ", "2: ", "-", " ", "\n", "values", "a", "b", " if ", "not ", "e(x)", ", ", "x!=y", "0", "1", "()", "not(x)"]
        for _ in range(4000):
            text = "".join(rng.choice(words) for _ in range(rng.randint(1, 6)))
            for parse in PARSERS:
                self.check_text(parse, text)

    def test_other_values_have_other_texts(self):
        for database in (PATH, POINT):
            self.assertEqual(parse_database(format_database(database)), database)
        rng = random.Random(11)
        told = [random_database(rng) for _ in range(50)]
        texts = [format_database(database) for database in told]
        for one, text in zip(told, texts):
            for other, second in zip(told, texts):
                self.assertEqual(one == other, text == second)
        self.assertTrue(all(is_right_name(name) for name in NAMES))


if __name__ == "__main__":
    unittest.main()
