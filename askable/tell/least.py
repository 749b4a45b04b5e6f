"""The tables that queries can have: the least ones around some tables, and the greatest ones within them."""

from askable.ask.languages import check_language
from askable.ask.rules import Query
from askable.base.checks import rows_of
from askable.base.databases import Database
from askable.base.tables import Table
from askable.errors import InvalidOperation
from askable.keep.keepers import check_keeper_bound, keeper_places
from askable.keep.keys import KeyRows, PlaceMaps, check_several, is_single
from askable.keep.places import rule_at
from askable.wish.examples import MAX_CASES, Examples
from askable.wish.papers import is_askable


def _are_databases(value):
    """Whether the value is a tuple of one to four databases of one shape."""
    if not isinstance(value, tuple) or not 1 <= len(value) <= MAX_CASES:
        return False
    if not all([isinstance(database, Database) for database in value]):
        return False
    return all([database.shape == value[0].shape for database in value])


def _are_tables(databases, value):
    """Whether the value is a tuple of tables, one over the values of each database, with one number of columns."""
    if not isinstance(value, tuple) or len(value) != len(databases):
        return False
    if not all([isinstance(table, Table) and table.columns == value[0].columns for table in value]):
        return False
    return all([_is_over(table, database) for table, database in zip(value, databases)])


def _is_over(table, database):
    return all([value in database.domain for value in table.domain])


def exact_wish(databases, tables):
    """The examples that want just these tables in the databases."""
    if not _are_databases(databases):
        raise InvalidOperation("not a tuple of one to four databases of one shape")
    if not _are_tables(databases, tables):
        raise InvalidOperation("not a tuple of a table over the values of each database")
    cases = [(database, table.rows, None) for database, table in zip(databases, tables)]
    return Examples(tables[0].columns, *cases)


def can_have(databases, tables, language):
    """Whether a query of the language has just these tables."""
    return is_askable(exact_wish(databases, tables), language)


class Around:
    """The least tables around those of an exact wish, found place by place."""

    def __init__(self, wish, language):
        self.ready = KeyRows(wish, language)
        # What a row leads to leads nowhere else: the places ahead of it are enough for a row that is found already.
        self.needed = []
        self._found = [{} for _ in wish]
        self._choices = [rows_of([database.domain] * wish.columns) for database, _, _ in wish]
        for places in keeper_places(wish, language):
            if not all([row in self._found[index] for index, row in places]) or is_single(language):
                self.needed.append(places)
                self._add(PlaceMaps(self.ready, places))

    def _add(self, told):
        """Put in the rows to which the maps from some places throw."""
        for target, found in enumerate(self._found):
            left = [row for row in self._choices[target] if row not in found]
            for row in told.thrown_among(target, left):
                found[row] = True

    def all_found(self):
        """The list of the lists of the rows of the least tables."""
        return [list(found) for found in self._found]


def _around(databases, tables, language):
    """The least tables around some tables, behind all errors."""
    wish = exact_wish(databases, tables)
    check_language(language)
    check_keeper_bound(wish, language)
    return Around(wish, language)


def least_tables(databases, tables, language):
    """The least tables around some tables that a query of the language has, one for each database."""
    found = _around(databases, tables, language).all_found()
    return tuple([Table.of(tables[0].columns, tuple(rows)) for rows in found])


def least_query(databases, tables, language):
    """A query of the language that has just the least tables."""
    told = _around(databases, tables, language)
    rules = [rule_at(told.ready, places)[0] for places in told.needed]
    return Query(tables[0].columns, *rules)


def greatest_tables(databases, tables, language):
    """The greatest tables within some tables that a query of the language has, one for each database."""
    wish = exact_wish(databases, tables)
    check_language(language)
    check_several(language)
    rows = KeyRows(wish, language)
    kept = [place for place in wish.places if PlaceMaps(rows, (place,)).any_keeper() is None]
    columns = wish.columns
    return tuple([
        Table.of(columns, tuple([row for case, row in kept if case == index])) for index in range(len(databases))
    ])
