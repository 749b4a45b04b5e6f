"""Texts of tables, databases, rules and queries: each value has just one."""

from askable.ask.rules import Query, Rule, check_query, check_rule
from askable.base.databases import Database, check_database
from askable.base.tables import Table, check_table, is_name
from askable.errors import AskError, ParseError

_DIGITS = ("0", "1", "2", "3")


def row_text(row):
    """The text of a row, or of a tuple of variables."""
    return "(" + ",".join(row) + ")"


def row_of(text):
    """The tuple of names of which this is the text, or None."""
    if not text.startswith("(") or not text.endswith(")"):
        return None
    row = tuple(text[1:-1].split(",")) if text != "()" else ()
    return row if all([is_name(name) for name in row]) else None


def _table_text(table):
    rows = " ".join([row_text(row) for row in table]) if len(table) > 0 else "-"
    return f"{table.columns}: {rows}"


def format_table(table):
    """The text of a table."""
    check_table(table)
    return _table_text(table)


def _database_text(database):
    lines = [f"{name} {_table_text(database[name])}" for name in database]
    return "\n".join(["values " + " ".join(database.domain)] + lines)


def format_database(database):
    """The text of a database."""
    check_database(database)
    return _database_text(database)


def _atom_text(atom):
    if atom[0] == "unlike":
        return f"{atom[1]}!={atom[2]}"
    text = atom[1] + row_text(atom[2])
    return "not " + text if atom[0] == "out" else text


def _rule_text(rule):
    atoms = ", ".join([_atom_text(atom) for atom in rule])
    return row_text(rule.head) + (" if " + atoms if atoms else "")


def format_rule(rule):
    """The text of a rule."""
    check_rule(rule)
    return _rule_text(rule)


def _query_text(query):
    return "\n".join([str(query.columns)] + [_rule_text(rule) for rule in query])


def format_query(query):
    """The text of a query."""
    check_query(query)
    return _query_text(query)


def _number_in(text):
    if text not in _DIGITS:
        raise ParseError("not a number of columns")
    return int(text)


def _table_in(text):
    columns, _, rest = text.partition(": ")
    parts = [] if rest == "-" else rest.split(" ")
    return Table.of(_number_in(columns), tuple([row_of(part) for part in parts]))


def _database_in(text):
    lines = text.split("\n")
    tables = {}
    for line in lines[1:]:
        name, _, rest = line.partition(" ")
        tables[name] = _table_in(rest)
    return Database.of(tuple(lines[0].split(" ")[1:]), tables)


def _atom_in(text):
    if "!=" in text:
        first, _, second = text.partition("!=")
        return "unlike", first, second
    word = "out" if text.startswith("not ") else "in"
    name, sign, rest = text.removeprefix("not ").partition("(")
    return word, name, row_of(sign + rest)


def _rule_in(text):
    head, sign, rest = text.partition(" if ")
    parts = rest.split(", ") if sign else []
    return Rule.of(row_of(head), tuple([_atom_in(part) for part in parts]))


def _query_in(text):
    lines = text.split("\n")
    return Query.of(_number_in(lines[0]), tuple([_rule_in(line) for line in lines[1:]]))


_READERS = {"table": _table_in, "database": _database_in, "rule": _rule_in, "query": _query_in}
_WRITERS = {"table": _table_text, "database": _database_text, "rule": _rule_text, "query": _query_text}


def _value_of(text, kind):
    """The value of some kind of which this is the text."""
    if not isinstance(text, str):
        raise ParseError("not a text")
    read = _READERS[kind]
    write = _WRITERS[kind]
    try:
        value = read(text)
    except AskError:
        raise ParseError("not the text of a value of this kind")
    # The readers take more than the texts of values, such as rows in any order. Each value is written in one way alone.
    if write(value) != text:
        raise ParseError("not written as the text of this value")
    return value


def parse_table(text):
    """The table of which this is the text."""
    return _value_of(text, "table")


def parse_database(text):
    """The database of which this is the text."""
    return _value_of(text, "database")


def parse_rule(text):
    """The rule of which this is the text."""
    return _value_of(text, "rule")


def parse_query(text):
    """The query of which this is the text."""
    return _value_of(text, "query")
