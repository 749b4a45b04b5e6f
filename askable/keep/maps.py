"""Maps of one place: from the values of a database to those of another one."""

from askable.ask.languages import check_language, signs_of
from askable.ask.rules import atom_over
from askable.ask.search import Search, head_first
from askable.ask.truth import Signs
from askable.base.checks import is_short_row, rows_of
from askable.base.databases import check_database
from askable.base.tables import Table, is_name
from askable.errors import InvalidOperation

# Whether a map is a symmetry does not depend on a language: these signs are enough for all.
_SYMMETRIC = "flat one unlike"


def is_value_map(value, first, second):
    """Whether the value is a dict from all values of one domain to values of another one."""
    if not isinstance(value, dict) or len(value) != len(first):
        return False
    return all([name in value and value[name] in second for name in first])


def _check_same_shape(first, second):
    """Raise an error if two databases have not one shape."""
    if first.shape != second.shape:
        raise InvalidOperation("the databases have not one shape")


def check_short_row(row, database):
    """Raise an error if the row is not a row of at most three values of the database."""
    if not is_short_row(row, database.domain):
        raise InvalidOperation("not a tuple of at most three values of the database")


def check_rows_of_two(first, row, second, other):
    """Raise an error if one of two databases, or of two rows of them, is none."""
    check_database(first)
    check_short_row(row, first)
    check_database(second)
    check_short_row(other, second)


def check_alike(first, row, second, other):
    """Raise an error if two databases have not one shape, or two rows of them not one length."""
    _check_same_shape(first, second)
    if len(row) != len(other):
        raise InvalidOperation("the rows have unlike lengths")


def _check_databases(first, second, language):
    check_database(first)
    check_database(second)
    check_language(language)
    _check_same_shape(first, second)


def _value_atoms(database, language):
    """The list of the atoms over values that are true in a database, for the signs of a language."""
    signs = Signs(database)
    return [atom_over(sign, row) for sign in signs_of(database, language) for row in signs.rows_in(sign)]


def _map_search(first, row, second, language):
    """The search for the maps that keep the signs, with the values of a row in front."""
    return Search(head_first(row, first.domain), _value_atoms(first, language), Signs(second))


def maps(first, second, language):
    """A generator of all maps that keep the signs, ascending by their values."""
    _check_databases(first, second, language)
    search = _map_search(first, (), second, language)
    for told in search.fillings((), ()):
        yield dict(zip(first.domain, told))


def is_map(first, second, language, value):
    """Whether the value is a map that keeps the signs."""
    _check_databases(first, second, language)
    return _is_keeping(first, second, language, value)


def _is_keeping(first, second, language, value):
    if not is_value_map(value, first.domain, second.domain):
        return False
    signs = Signs(second)
    return all([signs.holds(atom, value) for atom in _value_atoms(first, language)])


def map_of(first, row, second, other, language):
    """A map that keeps the signs and makes the row the other one, or None."""
    check_rows_of_two(first, row, second, other)
    check_language(language)
    check_alike(first, row, second, other)
    mapping = _map_search(first, row, second, language).first_filling(row, other)
    return None if mapping is None else {value: mapping[value] for value in first.domain}


def images(first, row, second, language):
    """The table of all rows that the row can become by maps that keep the signs."""
    check_database(first)
    check_short_row(row, first)
    check_database(second)
    check_language(language)
    _check_same_shape(first, second)
    search = _map_search(first, row, second, language)
    columns = len(row)
    rows = [other for other in rows_of([second.domain] * columns) if search.first_filling(row, other) is not None]
    return Table(columns, *rows)


def symmetries(database):
    """A generator of all symmetries of a database, ascending by their values."""
    check_database(database)
    yield from maps(database, database, _SYMMETRIC)


def is_symmetry(database, value):
    """Whether the value is a symmetry of a database."""
    check_database(database)
    return _is_keeping(database, database, _SYMMETRIC, value)


def _check_mapping(mapping):
    """Raise an error if the mapping is not a dict from names to names."""
    if not isinstance(mapping, dict) or not all([is_name(name) and is_name(mapping[name]) for name in mapping]):
        raise InvalidOperation("not a dict from names to names")


def turned(mapping):
    """The turned one of a dict from names to different names."""
    _check_mapping(mapping)
    back = {mapping[name]: name for name in mapping}
    if len(back) < len(mapping):
        raise InvalidOperation("two names have one value")
    return {name: back[name] for name in sorted(back)}


def behind(mapping, other):
    """The dict that does one dict from names to names and then the other one."""
    _check_mapping(mapping)
    _check_mapping(other)
    if not all([value in other for value in mapping.values()]):
        raise InvalidOperation("a value of the first dict is no key of the other one")
    return {name: other[mapping[name]] for name in sorted(mapping)}
