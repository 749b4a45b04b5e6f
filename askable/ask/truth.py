"""Where atoms and databases meet: whether an atom is true."""

from askable.ask.rules import sign_of, variables_of
from askable.base.checks import rows_of
from askable.errors import InvalidOperation, UnknownName


def meets(tables, shape):
    """Whether a database of this shape has these tables with so many columns, told as by rules."""
    return all([name in shape and tables[name] == shape[name] for name in tables])


def check_meeting(tables, database):
    """Raise an error if a database does not have these tables with so many columns, told as by rules."""
    for name in tables:
        if name not in database:
            raise UnknownName(name)
    if not meets(tables, database.shape):
        raise InvalidOperation("an atom has another number of variables than its table has columns")


class Signs:
    """The rows of the signs of a database, made ready to be looked up many times."""

    def __init__(self, database):
        self.choices = database.domain
        self._widths = database.shape
        # A dict finds a row at once, where a table would look through all of its rows.
        self._known_rows = {name: {row: True for row in database[name]} for name in database}
        self._known_masks = {}

    def width(self, sign):
        """The number of columns of a sign."""
        return 2 if sign[0] == "unlike" else self._widths[sign[1]]

    def has(self, sign, row):
        """Whether a row of so many values is one of a sign."""
        if sign[0] == "unlike":
            return row[0] != row[1]
        return (row in self._known_rows[sign[1]]) == (sign[0] == "in")

    def holds(self, atom, mapping):
        """Whether an atom is true with the values of a mapping."""
        return self.has(sign_of(atom), tuple([mapping[variable] for variable in variables_of(atom)]))

    def rows_in(self, sign):
        """The ascending list of the rows of a sign."""
        return [row for row in rows_of([self.choices] * self.width(sign)) if self.has(sign, row)]

    def mask(self, sign, pattern):
        """An integer with a bit for each row of values, ascending from the least bit: whether it makes a row of a sign.

        The pattern tells for each column of the sign at which position of the row of values its value stands.
        """
        known = self._known_masks.get((sign, pattern))
        if known is None:
            known = self._new_mask(sign, pattern)
            self._known_masks[(sign, pattern)] = known
        return known

    def _new_mask(self, sign, pattern):
        mask = 0
        for index, told in enumerate(rows_of([self.choices] * (max(pattern, default=-1) + 1))):
            if self.has(sign, tuple([told[at] for at in pattern])):
                mask = mask | (1 << index)
        return mask
