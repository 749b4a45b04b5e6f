"""Names, and tables of rows of names."""

from askable.base.checks import is_below, rows_of
from askable.errors import InvalidNumber, InvalidOperation, InvalidTable

MAX_COLUMNS = 3
MAX_VALUES = 6
_MAX_LETTERS = 8


def is_name(value):
    """Whether the value is a string of one to eight letters."""
    if not isinstance(value, str) or not 1 <= len(value) <= _MAX_LETTERS:
        return False
    return all(["a" <= letter <= "z" for letter in value])


def are_values(value):
    """Whether the value is a tuple of one to six different names."""
    if not isinstance(value, tuple) or not 1 <= len(value) <= MAX_VALUES:
        return False
    return all([is_name(part) for part in value]) and len(set(value)) == len(value)


def is_map_from(mapping, names):
    """Whether the mapping is a dict from just these different names to names."""
    if not isinstance(mapping, dict) or len(mapping) != len(names):
        return False
    return all([name in mapping and is_name(mapping[name]) for name in names])


def is_renaming(mapping, names):
    """Whether the mapping is a dict from just these different names to different names."""
    return is_map_from(mapping, names) and len(set(list(mapping.values()))) == len(mapping)


def check_columns(columns):
    """Raise an error if the number of columns is none."""
    if not is_below(columns, MAX_COLUMNS + 1):
        raise InvalidNumber(columns)


def check_table(table):
    """Raise an error if the table is none."""
    if not isinstance(table, Table):
        raise InvalidTable("not a table")


def whole_table(values, columns):
    """The table of all rows over the values, with so many columns."""
    if not are_values(values):
        raise InvalidOperation("the values are not a tuple of one to six different names")
    check_columns(columns)
    rows = rows_of([values] * columns)
    return Table(columns, *rows)


def _is_row_of_names(value, columns):
    return isinstance(value, tuple) and len(value) == columns and all([is_name(part) for part in value])


def _check_alike(table, other):
    if not isinstance(other, Table) or table.columns != other.columns:
        raise InvalidOperation("the other value is not a table with as many columns")


class Table:
    """A number of columns, and rows with so many names. A table never changes."""

    def __init__(self, columns, *rows):
        check_columns(columns)
        if not all([_is_row_of_names(row, columns) for row in rows]):
            raise InvalidTable("a row is not a tuple of as many names as there are columns")
        self._columns = columns
        self._rows = tuple(sorted(set(rows)))

    @classmethod
    def of(cls, columns, rows):
        """The table of a tuple of rows."""
        check_columns(columns)
        if not isinstance(rows, tuple):
            raise InvalidTable("the rows are not a tuple")
        return cls(columns, *rows)

    @property
    def columns(self):
        """The number of columns."""
        return self._columns

    @property
    def rows(self):
        """The ascending tuple of the rows."""
        return self._rows

    @property
    def domain(self):
        """The ascending tuple of the names in the rows."""
        return tuple(sorted({name for row in self._rows for name in row}))

    def is_within(self, value):
        """Whether the value is a table with as many columns that has all rows of this one."""
        if not isinstance(value, Table) or self._columns != value.columns:
            return False
        return len(set(self._rows) - set(value.rows)) == 0

    def picked(self, *positions):
        """The table of the values at these positions of the rows."""
        for position in positions:
            if not is_below(position, self._columns):
                raise InvalidNumber(position)
        if len(positions) > MAX_COLUMNS:
            raise InvalidOperation("more than three positions")
        columns = len(positions)
        rows = [tuple([row[at] for at in positions]) for row in self._rows]
        return Table(columns, *rows)

    def mapped(self, mapping):
        """The table with other names in its rows."""
        if not is_map_from(mapping, self.domain):
            raise InvalidOperation("the mapping is not a dict from just the names in the rows to names")
        rows = [tuple([mapping[name] for name in row]) for row in self._rows]
        return Table(self._columns, *rows)

    def __or__(self, other):
        _check_alike(self, other)
        rows = self._rows + other.rows
        return Table(self._columns, *rows)

    def __and__(self, other):
        _check_alike(self, other)
        rows = sorted(set(self._rows) & set(other.rows))
        return Table(self._columns, *rows)

    def __sub__(self, other):
        _check_alike(self, other)
        rows = sorted(set(self._rows) - set(other.rows))
        return Table(self._columns, *rows)

    def __len__(self):
        return len(self._rows)

    def __contains__(self, value):
        return value in self._rows

    def __iter__(self):
        return iter(self._rows)

    def __eq__(self, other):
        return isinstance(other, Table) and self._columns == other._columns and self._rows == other._rows

    def __str__(self):
        return f"table of {self._columns} columns, {len(self._rows)} rows"
