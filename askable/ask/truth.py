"""Where atoms and databases meet: whether an atom is true."""

from askable.ask.rules import variables_of
from askable.errors import InvalidOperation, UnknownName


def check_meeting(tables, database):
    """Raise an error if a database does not have these tables with so many columns, told as by rules."""
    for name in tables:
        if name not in database:
            raise UnknownName(name)
    shape = database.shape
    if not all([tables[name] == shape[name] for name in tables]):
        raise InvalidOperation("an atom has another number of variables than its table has columns")


def rows_under_names(database):
    """The dict from the names of the tables to dicts that have the rows as keys."""
    # A dict finds a row at once, where a table would look through all of its rows.
    return {name: {row: True for row in database[name]} for name in database}


def holds(rows, atom, mapping):
    """Whether an atom is true with the values of a mapping, beside such a dict of rows."""
    told = tuple([mapping[variable] for variable in variables_of(atom)])
    if atom[0] == "unlike":
        return told[0] != told[1]
    return (told in rows[atom[1]]) == (atom[0] == "in")
