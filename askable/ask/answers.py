"""Answers of rules and queries, and ways by which rows are answers."""

from askable.ask.rules import Rule, check_query, check_rule, kept_atom
from askable.ask.search import rule_search
from askable.ask.truth import Signs, check_meeting
from askable.base.checks import is_below, is_row, rows_of
from askable.base.databases import check_database
from askable.base.tables import Table, is_name
from askable.errors import InvalidOperation, TooMany

MAX_SEARCH = 65536


def is_beyond(values, names):
    """Whether there are too many ways to give so many values to so many names."""
    many = 1
    # One value never goes beyond; two or more do behind as many names as the limit has bits. There can be very many.
    for _ in range(min(names, MAX_SEARCH.bit_length())):
        many = many * values
    return many > MAX_SEARCH


def check_bound(rule, database):
    """Raise an error if there are too many ways to give values to the variables of the rule."""
    if is_beyond(len(database.domain), len(rule.variables)):
        raise TooMany(MAX_SEARCH)


def check_bounds(query, database):
    """Raise an error if there are too many ways to give values to the variables of some rule."""
    for rule in query:
        check_bound(rule, database)


def _check_row(row, columns, database):
    if not is_row(row, columns, database.domain):
        raise InvalidOperation("not a row over the values with so many columns")


def check_query_at_row(query, database, row):
    """Raise the errors of a query and a row of a database."""
    check_query(query)
    check_database(database)
    _check_row(row, query.columns, database)
    check_meeting(query.tables, database)


def is_true(database, atom, mapping):
    """Whether an atom is true in a database with the values of a dict."""
    check_database(database)
    kept = kept_atom(atom)
    if kept is None:
        raise InvalidOperation("not an atom")
    rule = Rule((), kept)
    if not _gives_values(mapping, database.domain) or not all([variable in mapping for variable in rule.variables]):
        raise InvalidOperation("the mapping is not a dict from names, the variables among them, to values")
    check_meeting(rule.tables, database)
    return Signs(database).holds(kept, mapping)


def _gives_values(mapping, values):
    """Whether the mapping is a dict from names to some values."""
    if not isinstance(mapping, dict) or not all([is_name(name) for name in mapping]):
        return False
    return all([value in values for value in mapping.values()])


def ways(rule, database, row):
    """A generator of all dicts by which the row is an answer of the rule, ascending by their values."""
    check_rule(rule)
    check_database(database)
    _check_row(row, len(rule.head), database)
    check_meeting(rule.tables, database)
    check_bound(rule, database)
    search = rule_search(rule, Signs(database))
    for told in search.fillings(rule.head, row):
        mapping = dict(zip(search.order, told))
        yield {variable: mapping[variable] for variable in rule.variables}


class QuerySearch:
    """A query in a database, made ready for a search for the ways to many rows."""

    def __init__(self, query, signs):
        self._query = query
        self._searches = [rule_search(rule, signs) for rule in query]

    def way(self, row):
        """A pair (index of a rule, dict) by which the row is an answer, or None."""
        for index, rule in enumerate(self._query):
            mapping = self._searches[index].first_filling(rule.head, row)
            if mapping is not None:
                return index, {variable: mapping[variable] for variable in rule.variables}
        return None

    def has_answer(self, row):
        """Whether the row is an answer."""
        return self.way(row) is not None


def way_of(query, database, row):
    """A pair (index of a rule, dict) by which the row is an answer of the query, or None."""
    check_query_at_row(query, database, row)
    check_bounds(query, database)
    return QuerySearch(query, Signs(database)).way(row)


def is_way(query, database, row, value):
    """Whether the value is a pair by which the row is an answer of the query."""
    check_query_at_row(query, database, row)
    return accepts_way(query, Signs(database), row, value)


def accepts_way(query, signs, row, value):
    """Whether the value is a pair by which the row is an answer of the query, in the database of the signs."""
    if not isinstance(value, tuple) or len(value) != 2 or not is_below(value[0], len(query)):
        return False
    rule = query[value[0]]
    mapping = value[1]
    if not _gives_values(mapping, signs.choices) or tuple(sorted(mapping)) != rule.variables:
        return False
    if tuple([mapping[variable] for variable in rule.head]) != row:
        return False
    return all([signs.holds(atom, mapping) for atom in rule])


def _search_for(query, database):
    """The search for the answers of a query, behind its errors."""
    check_query(query)
    check_database(database)
    check_meeting(query.tables, database)
    check_bounds(query, database)
    return QuerySearch(query, Signs(database))


def answers(query, database):
    """The table of the answers of a query in a database."""
    search = _search_for(query, database)
    columns = query.columns
    rows = [row for row in rows_of([database.domain] * columns) if search.has_answer(row)]
    return Table(columns, *rows)


def first_answer(query, database):
    """The first answer of a query in a database, or None."""
    search = _search_for(query, database)
    for row in rows_of([database.domain] * query.columns):
        if search.has_answer(row):
            return row
    return None
