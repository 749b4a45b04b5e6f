"""Integers and rows: what the other files look at."""


def is_below(value, limit):
    """Whether the value is an integer, at least 0 and below the limit."""
    return isinstance(value, int) and not isinstance(value, bool) and 0 <= value < limit


def is_row(value, columns, values):
    """Whether the value is a row over some values, with so many columns."""
    return isinstance(value, tuple) and len(value) == columns and all([part in values for part in value])


def is_short_row(value, values):
    """Whether the value is a tuple of at most three of some values."""
    return isinstance(value, tuple) and is_row(value, min(len(value), 3), values)


def are_rows(value, columns, values):
    """Whether the value is an ascending tuple of rows over some values, with so many columns."""
    if not isinstance(value, tuple) or not all([is_row(row, columns, values) for row in value]):
        return False
    return all([value[at] < value[at + 1] for at in range(len(value) - 1)])


def rows_of(choices):
    """The list of the rows with one value of each choice, ascending if all choices are."""
    rows = [()]
    for values in choices:
        rows = [row + (value,) for row in rows for value in values]
    return rows
