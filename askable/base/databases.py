"""Databases: some values, and tables of them under names."""

from askable.base.checks import is_row
from askable.base.tables import MAX_VALUES, Table, are_values, check_table, is_name, is_renaming, whole_table
from askable.errors import InvalidDatabase, InvalidName, InvalidOperation, UnknownName

MAX_TABLES = 4


def check_database(database):
    """Raise an error if the database is none."""
    if not isinstance(database, Database):
        raise InvalidDatabase("not a database")


def sign_table(database, sign):
    """The table of the rows that a sign has in a database."""
    check_database(database)
    if not _is_sign(database, sign):
        raise InvalidOperation("not a sign of the database")
    if sign[0] == "unlike":
        pairs = [(one, other) for one in database.domain for other in database.domain if one != other]
        return Table(2, *pairs)
    table = database[sign[1]]
    if sign[0] == "in":
        return table
    return whole_table(database.domain, table.columns) - table


def _is_sign(database, sign):
    if not isinstance(sign, tuple) or len(sign) != 2:
        return sign == ("unlike",)
    return sign[0] in ("in", "out") and sign[1] in database


def _kept_tables(values, tables):
    """The dict of the tables, ascending by their names."""
    if not isinstance(tables, dict) or len(tables) > MAX_TABLES:
        raise InvalidDatabase("the tables are not a dict from at most four names to tables")
    for name, table in tables.items():
        if not is_name(name) or not isinstance(table, Table):
            raise InvalidDatabase("the tables are not a dict from names to tables")
        if not all([value in values for value in table.domain]):
            raise InvalidDatabase("a row of a table is not a row over the values")
    return {name: tables[name] for name in sorted(tables)}


class Database:
    """One to six values, and none to four tables under names. A database never changes."""

    def __init__(self, values, **tables):
        if not are_values(values):
            raise InvalidDatabase("the values are not a tuple of one to six different names")
        self._domain = tuple(sorted(values))
        self._tables = _kept_tables(values, tables)

    @classmethod
    def of(cls, values, tables):
        """The database of a dict of tables."""
        # A table can be called like a parameter of the class, so the tables cannot go by keyword.
        database = cls(values)
        database._tables = _kept_tables(values, tables)
        return database

    @property
    def domain(self):
        """The ascending tuple of the values."""
        return self._domain

    @property
    def tables(self):
        """The dict from the names of the tables to the tables."""
        return dict(self._tables)

    @property
    def shape(self):
        """The dict from the names of the tables to their numbers of columns."""
        return {name: self._tables[name].columns for name in self._tables}

    def with_table(self, name, table):
        """The database with one more table, or with another one under this name."""
        if not is_name(name):
            raise InvalidName("the name of a table is not a name")
        check_table(table)
        return Database.of(self._domain, {**self._tables, name: table})

    def without_table(self, name):
        """The database without one of its tables."""
        self._check_name(name)
        return Database.of(self._domain, {other: self._tables[other] for other in self._tables if other != name})

    def only(self, *names):
        """The database with these of its tables alone."""
        for name in names:
            self._check_name(name)
        return Database.of(self._domain, {name: self._tables[name] for name in names})

    def with_row(self, name, row):
        """The database with one more row in a table."""
        table = self[name]
        if not is_row(row, table.columns, self._domain):
            raise InvalidOperation("not a row over the values with so many columns")
        return self.with_table(name, table | Table(table.columns, row))

    def without_row(self, name, row):
        """The database with one row less in a table."""
        table = self[name]
        if row not in table:
            raise InvalidOperation("not a row of the table")
        return self.with_table(name, table - Table(table.columns, row))

    def with_value(self, value):
        """The database with one more value, if it does not have it."""
        if not is_name(value):
            raise InvalidName("a value is not a name")
        if value in self._domain:
            return self
        if len(self._domain) == MAX_VALUES:
            raise InvalidDatabase("more than six values")
        return Database.of(self._domain + (value,), self._tables)

    def without_value(self, value):
        """The database with one value less, that stands in no row."""
        if value not in self._domain:
            raise UnknownName(value)
        if len(self._domain) == 1 or any([value in self._tables[name].domain for name in self._tables]):
            raise InvalidOperation("the value stands in a row, or is the only one")
        return Database.of(tuple([other for other in self._domain if other != value]), self._tables)

    def renamed(self, mapping):
        """The database with other values."""
        if not is_renaming(mapping, self._domain):
            raise InvalidOperation("the mapping is not a dict from just the values to different names")
        tables = {}
        for name, table in self._tables.items():
            tables[name] = table.mapped({value: mapping[value] for value in table.domain})
        return Database.of(tuple([mapping[value] for value in self._domain]), tables)

    def _check_name(self, name):
        if name not in self:
            raise UnknownName(name)

    def __getitem__(self, name):
        self._check_name(name)
        return self._tables[name]

    def __len__(self):
        return len(self._tables)

    def __contains__(self, value):
        return isinstance(value, str) and value in self._tables

    def __iter__(self):
        return iter(self._tables)

    def __eq__(self, other):
        return isinstance(other, Database) and self._domain == other._domain and self._tables == other._tables

    def __str__(self):
        return f"database of {len(self._domain)} values, {len(self._tables)} tables"
