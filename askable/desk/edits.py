"""Edits of a desk: what each of them makes of a board."""

from askable.base.checks import is_row
from askable.base.databases import check_database
from askable.base.tables import MAX_VALUES, check_columns, is_name
from askable.desk.boards import Board
from askable.errors import InvalidEdit, InvalidOperation, TooMany
from askable.wish.examples import MAX_CASES


def _put(board, name, database):
    if name in board.databases:
        raise InvalidOperation("a database has this name")
    check_database(database)
    if database.shape != board.form:
        raise InvalidOperation("a database of another shape")
    if len(board.databases) == MAX_CASES:
        raise TooMany(MAX_CASES)
    return board.with_database(name, database)


def _drop(board, name):
    board.database_of(name)
    left = {other: database for other, database in board.databases.items() if other != name}
    told = {}
    for wish, (columns, said) in board.told.items():
        told[wish] = (columns, {place: word for place, word in said.items() if place[0] != name})
    return Board(board.form, left, told)


def _row(board, name, table, row):
    return board.with_database(name, board.database_of(name).with_row(table, row))


def _unrow(board, name, table, row):
    database = board.database_of(name)
    # A row that is not there may go, but what is no row may not.
    more = database.with_row(table, row)
    return board if more != database else board.with_database(name, database.without_row(table, row))


def _value(board, name, value):
    database = board.database_of(name)
    if value not in database.domain and len(database.domain) == MAX_VALUES:
        raise TooMany(MAX_VALUES)
    return board.with_database(name, database.with_value(value))


def _unvalue(board, name, value):
    database = board.database_of(name)
    if value not in database.domain:
        return board
    for _, said in board.told.values():
        if any([home == name and value in row for home, row in said]):
            raise InvalidOperation("a wish says something of a row with the value")
    return board.with_database(name, database.without_value(value))


def _wish(board, wish, columns):
    if wish in board.told:
        raise InvalidOperation("a wish has this name")
    check_columns(columns)
    return board.with_wish(wish, columns, {})


def _forget(board, wish):
    board.wish_of(wish)
    told = {other: board.told[other] for other in board.told if other != wish}
    return Board(board.form, board.databases, told)


def _others_said(board, wish, name, row):
    """The number of columns of a wish, and what it says of all other rows."""
    columns, said = board.wish_of(wish)
    if not is_row(row, columns, board.database_of(name).domain):
        raise InvalidOperation("not a row over the values of the database with so many columns")
    return columns, {place: said[place] for place in said if place != (name, row)}


def _must(board, wish, name, row):
    columns, said = _others_said(board, wish, name, row)
    return board.with_wish(wish, columns, {**said, (name, row): "must"})


def _bar(board, wish, name, row):
    columns, said = _others_said(board, wish, name, row)
    return board.with_wish(wish, columns, {**said, (name, row): "bar"})


def _open(board, wish, name, row):
    columns, said = _others_said(board, wish, name, row)
    return board.with_wish(wish, columns, said)


_LENGTHS = {
    "put": 3, "drop": 2, "row": 4, "unrow": 4, "value": 3, "unvalue": 3,
    "wish": 3, "forget": 2, "must": 4, "bar": 4, "open": 4,
}
# Where the name of a new database or wish, or a value, stands in an edit.
_NAMED = {"put": 1, "wish": 1, "value": 2, "unvalue": 2}
_ACTIONS = {
    "put": _put, "drop": _drop, "row": _row, "unrow": _unrow, "value": _value, "unvalue": _unvalue,
    "wish": _wish, "forget": _forget, "must": _must, "bar": _bar, "open": _open,
}


def _is_edit(value):
    """Whether the value is a tuple with the word and the length of an edit, and with names where new ones stand."""
    if not isinstance(value, tuple) or len(value) == 0 or not isinstance(value[0], str):
        return False
    if len(value) != _LENGTHS.get(value[0], 0):
        return False
    return value[0] not in _NAMED or is_name(value[_NAMED[value[0]]])


def board_behind(board, edit):
    """The board behind an edit, which can be the same one."""
    if not _is_edit(edit):
        raise InvalidEdit("not an edit")
    action = _ACTIONS[edit[0]]
    parts = edit[1:]
    return action(board, *parts)
