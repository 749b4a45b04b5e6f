"""Answers of rules and queries, and ways by which rows are answers."""

from askable.ask.rules import Rule, check_query, check_rule, kept_atom
from askable.ask.search import Search
from askable.ask.truth import check_meeting, holds, rows_under_names
from askable.base.checks import is_below, is_row, rows_of
from askable.base.databases import check_database
from askable.base.tables import Table, is_name
from askable.errors import InvalidOperation, TooMany

MAX_SEARCH = 65536


def check_bound(rule, database):
    """Raise an error if there are too many ways to give values to the variables of the rule."""
    many = 1
    for _ in rule.variables:
        many = many * len(database.domain)
    if many > MAX_SEARCH:
        raise TooMany(MAX_SEARCH)


def _check_bounds(query, database):
    for rule in query:
        check_bound(rule, database)


def _check_row(row, columns, database):
    if not is_row(row, columns, database.domain):
        raise InvalidOperation("not a row over the values with so many columns")


def check_query_at_row(query, database, row):
    """Raise the errors of a query and a row of a database."""
    check_query(query)
    check_database(database)
    _check_row(row, query.columns, database)
    check_meeting(query.tables, database)


def is_true(database, atom, mapping):
    """Whether an atom is true in a database with the values of a dict."""
    check_database(database)
    kept = kept_atom(atom)
    if kept is None:
        raise InvalidOperation("not an atom")
    rule = Rule((), kept)
    if not _gives_values(mapping, database) or not all([variable in mapping for variable in rule.variables]):
        raise InvalidOperation("the mapping is not a dict from names, the variables among them, to values")
    check_meeting(rule.tables, database)
    return holds(rows_under_names(database), kept, mapping)


def _gives_values(mapping, database):
    """Whether the mapping is a dict from names to values of the database."""
    if not isinstance(mapping, dict) or not all([is_name(name) for name in mapping]):
        return False
    return all([value in database.domain for value in mapping.values()])


def _mappings(rule, database, row):
    """A generator of the dicts by which the row is an answer of the rule."""
    search = Search(rule, database)
    for told in search.fillings(row):
        mapping = dict(zip(search.order, told))
        yield {variable: mapping[variable] for variable in rule.variables}


def ways(rule, database, row):
    """A generator of all dicts by which the row is an answer of the rule, ascending by their values."""
    check_rule(rule)
    check_database(database)
    _check_row(row, len(rule.head), database)
    check_meeting(rule.tables, database)
    check_bound(rule, database)
    yield from _mappings(rule, database, row)


def way_of(query, database, row):
    """A pair (index of a rule, dict) by which the row is an answer of the query, or None."""
    check_query_at_row(query, database, row)
    _check_bounds(query, database)
    for index, rule in enumerate(query):
        for mapping in _mappings(rule, database, row):
            return index, mapping
    return None


def is_way(query, database, row, value):
    """Whether the value is a pair by which the row is an answer of the query."""
    check_query_at_row(query, database, row)
    if not isinstance(value, tuple) or len(value) != 2 or not is_below(value[0], len(query)):
        return False
    rule = query[value[0]]
    mapping = value[1]
    if not _gives_values(mapping, database) or tuple(sorted(mapping)) != rule.variables:
        return False
    if tuple([mapping[variable] for variable in rule.head]) != row:
        return False
    rows = rows_under_names(database)
    return all([holds(rows, atom, mapping) for atom in rule])


def _searches(query, database):
    """The list of the searches for the rules of a query."""
    check_query(query)
    check_database(database)
    check_meeting(query.tables, database)
    _check_bounds(query, database)
    return [Search(rule, database) for rule in query]


def _has_answer(searches, row):
    for search in searches:
        if search.has_answer(row):
            return True
    return False


def answers(query, database):
    """The table of the answers of a query in a database."""
    searches = _searches(query, database)
    columns = query.columns
    rows = [row for row in rows_of([database.domain] * columns) if _has_answer(searches, row)]
    return Table(columns, *rows)


def first_answer(query, database):
    """The first answer of a query in a database, or None."""
    searches = _searches(query, database)
    for row in rows_of([database.domain] * query.columns):
        if _has_answer(searches, row):
            return row
    return None
