"""The order of rows: which rows no query tells apart, and the tables that queries can have."""

from askable.ask.languages import check_language
from askable.ask.rules import Query, Rule
from askable.base.checks import is_row, rows_of
from askable.base.databases import check_database
from askable.base.tables import Table, check_columns, is_name
from askable.errors import InvalidOperation, TooMany
from askable.keep.keys import KeyRows, PlaceMaps, check_several
from askable.keep.maps import check_short_row
from askable.wish.examples import Examples
from askable.wish.papers import is_askable, is_paper, paper

MAX_CLASSES = 16


def _check_rows(database, row, other, language):
    """Raise the errors of two rows of a database and a language."""
    check_database(database)
    check_short_row(row, database)
    if not is_row(other, len(row), database.domain):
        raise InvalidOperation("the other row is not a row over the values with as many values")
    check_language(language)


def _parting_wish(database, row, other):
    """The examples that want the first row without the other one: a row leads where their keepers throw it."""
    return Examples(len(row), (database, (row,), (other,)))


def leads_to(database, row, other, language):
    """Whether each query of the language that has the row has the other one, too."""
    _check_rows(database, row, other, language)
    return not is_askable(_parting_wish(database, row, other), language)


def order_paper(database, row, other, language):
    """An order paper of two rows: a map that makes the row the other one, or a rule that parts them."""
    _check_rows(database, row, other, language)
    told = paper(_parting_wish(database, row, other), language)
    if told[0] == "keeper":
        return "map", {key[0]: value for key, value in told[3].items()}
    return "parted", told[1][0], told[2][0][1], told[3][0][0]


def is_order_paper(database, row, other, language, value):
    """Whether the value is an order paper of two rows."""
    _check_rows(database, row, other, language)
    wish = _parting_wish(database, row, other)
    return is_paper(wish, language, _paper_by(wish, value))


def _paper_by(wish, value):
    """What a value like an order paper is as a paper of examples with one place, or None."""
    if not isinstance(value, tuple) or len(value) not in (2, 4):
        return None
    if len(value) == 2:
        return _keeper_by(wish, value[1]) if value[0] == "map" else None
    if value[0] != "parted" or not isinstance(value[1], Rule) or len(value[1].head) != wish.columns:
        return None
    return "query", Query(wish.columns, value[1]), ((0, value[2]),), ((value[3],),)


def _keeper_by(wish, mapping):
    """The value like a keeper that a map tells, or None."""
    if not isinstance(mapping, dict) or not all([is_name(name) for name in mapping]):
        return None
    return "keeper", wish.places, 0, {(name,): mapping[name] for name in mapping}


def _check_all(database, columns, language):
    check_database(database)
    check_columns(columns)
    check_language(language)


def _leads(database, columns, language):
    """The dict from all rows with so many columns to the tuples of the rows to which they lead."""
    choices = rows_of([database.domain] * columns)
    rows = KeyRows(Examples(columns, (database, tuple(choices), ())), language)
    return {row: tuple(PlaceMaps(rows, ((0, row),)).thrown_among(0, choices)) for row in choices}


def _classes(leads):
    """The ascending list of the classes, by the rows to which each row leads."""
    found = {}
    for row, others in leads.items():
        # Rows lead to one another just if they lead to the same rows.
        found.setdefault(others, []).append(row)
    return sorted([tuple(rows) for rows in found.values()])


def classes(database, columns, language):
    """The ascending tuple of the classes of all rows of a database with so many columns."""
    _check_all(database, columns, language)
    return tuple(_classes(_leads(database, columns, language)))


def class_order(database, columns, language):
    """The ascending tuple of the pairs of indices of two classes of which the first one leads to the second one."""
    _check_all(database, columns, language)
    leads = _leads(database, columns, language)
    found = _classes(leads)
    return tuple([(at, to) for at in range(len(found)) for to in _led_to(leads, found, at) if at != to])


def _led_to(leads, found, index):
    """The ascending list of the indices of the classes to which one of them leads, itself included."""
    others = leads[found[index][0]]
    return [at for at, rows in enumerate(found) if rows[0] in others]


def _closed_sets(database, columns, language):
    """The classes, and the list of the sets of them that have all to which one of them leads, by their bits."""
    _check_all(database, columns, language)
    check_several(language)
    leads = _leads(database, columns, language)
    found = _classes(leads)
    if len(found) > MAX_CLASSES:
        raise TooMany(MAX_CLASSES)
    masks = {0: True}
    for index in range(len(found)):
        more = sum([1 << at for at in _led_to(leads, found, index)])
        masks.update({mask | more: True for mask in list(masks)})
    return found, list(masks)


def number_of_tables(database, columns, language):
    """How many tables with so many columns a query of the language can have."""
    return len(_closed_sets(database, columns, language)[1])


def tables_asked(database, columns, language):
    """A generator of the tables with so many columns that a query can have, by their numbers of rows."""
    found, masks = _closed_sets(database, columns, language)
    for rows in _by_size(found, masks):
        yield Table.of(columns, rows)


def _by_size(found, masks):
    """The list of the tuples of the rows of sets of classes, shorter ones first, those of one length ascending."""
    told = []
    for mask in masks:
        rows = sorted([row for at, one in enumerate(found) if mask >> at & 1 for row in one])
        told.append((len(rows), tuple(rows)))
    return [rows for _, rows in sorted(told)]
