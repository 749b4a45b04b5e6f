"""Examples: databases with rows that must be answers, and rows that must not."""

from askable.ask.answers import QuerySearch, check_bounds
from askable.ask.rules import check_query
from askable.ask.truth import Signs, check_meeting
from askable.base.checks import is_below, is_row, rows_of
from askable.base.databases import Database
from askable.base.tables import check_columns
from askable.errors import InvalidExamples, InvalidNumber, InvalidOperation

MAX_CASES = 4


def check_examples(examples):
    """Raise an error if the examples are none."""
    if not isinstance(examples, Examples):
        raise InvalidExamples("not examples")


def _are_rows_in_any_order(value, columns, database):
    return isinstance(value, tuple) and all([is_row(row, columns, database.domain) for row in value])


def _kept_case(case, columns):
    """The case with ascending rows, and with the barred ones written out."""
    if not isinstance(case, tuple) or len(case) != 3 or not isinstance(case[0], Database):
        raise InvalidExamples("a case is not a triple of a database and rows")
    database, must, barred = case
    if not _are_rows_in_any_order(must, columns, database):
        raise InvalidExamples("the rows that must are not a tuple of rows over the values with so many columns")
    if barred is None:
        barred = tuple([row for row in rows_of([database.domain] * columns) if row not in must])
    if not _are_rows_in_any_order(barred, columns, database):
        raise InvalidExamples("the barred rows are not a tuple of rows over the values with so many columns")
    return database, tuple(sorted(set(must))), tuple(sorted(set(barred)))


def _check_query_of(examples, query):
    """Raise the errors of examples that are called with a query."""
    check_query(query)
    if query.columns != examples.columns:
        raise InvalidOperation("the query has another number of columns")
    cases = examples.cases
    check_meeting(query.tables, cases[0][0])
    for database, _, _ in cases:
        check_bounds(query, database)


def first_misfit(examples, query):
    """The first (index of a case, row, whether it must) at which the query does not do as it should, or None."""
    check_examples(examples)
    _check_query_of(examples, query)
    for index, (database, must, barred) in enumerate(examples):
        search = QuerySearch(query, Signs(database))
        for row in must:
            if not search.has_answer(row):
                return index, row, True
        for row in barred:
            if search.has_answer(row):
                return index, row, False
    return None


class Examples:
    """A number of columns, and one to four cases: databases with rows that must and rows that are barred.

    Examples never change.
    """

    def __init__(self, columns, *cases):
        check_columns(columns)
        kept = [_kept_case(case, columns) for case in cases]
        if not 1 <= len(kept) <= MAX_CASES:
            raise InvalidExamples("not one to four cases")
        shapes = [database.shape for database, _, _ in kept]
        if not all([shape == shapes[0] for shape in shapes]):
            raise InvalidExamples("the databases have not one shape")
        self._columns = columns
        self._cases = tuple(kept)
        self._shape = shapes[0]
        self._places = tuple([(index, row) for index, (_, must, _) in enumerate(kept) for row in must])

    @classmethod
    def of(cls, columns, cases):
        """The examples of a tuple of cases."""
        check_columns(columns)
        if not isinstance(cases, tuple):
            raise InvalidExamples("the cases are not a tuple")
        return cls(columns, *cases)

    @property
    def columns(self):
        """The number of columns."""
        return self._columns

    @property
    def cases(self):
        """The tuple of the cases, with ascending rows."""
        return self._cases

    @property
    def shape(self):
        """The dict from the names of the tables of each database to their numbers of columns."""
        return dict(self._shape)

    @property
    def places(self):
        """The ascending tuple of the pairs of the index of a case and a row that must come there."""
        return self._places

    def with_must(self, index, row):
        """The examples with one more row that must."""
        self._check_row(index, row)
        database, must, barred = self._cases[index]
        return self._with_case(index, (database, must + (row,), barred))

    def with_barred(self, index, row):
        """The examples with one more barred row."""
        self._check_row(index, row)
        database, must, barred = self._cases[index]
        return self._with_case(index, (database, must, barred + (row,)))

    def without_must(self, index, row):
        """The examples with one row less that must."""
        self._check_row(index, row)
        database, must, barred = self._cases[index]
        return self._with_case(index, (database, _rows_without(must, row), barred))

    def without_barred(self, index, row):
        """The examples with one barred row less."""
        self._check_row(index, row)
        database, must, barred = self._cases[index]
        return self._with_case(index, (database, must, _rows_without(barred, row)))

    def turned(self):
        """The examples with the rows that must and the barred rows exchanged."""
        cases = [(database, barred, must) for database, must, barred in self._cases]
        return Examples(self._columns, *cases)

    def only(self, *indices):
        """The examples of these cases, in this order."""
        for index in indices:
            self._check_index(index)
        cases = [self._cases[index] for index in indices]
        return Examples(self._columns, *cases)

    def _with_case(self, index, case):
        """The examples with another case at an index."""
        cases = self._cases[:index] + (case,) + self._cases[index + 1:]
        return Examples(self._columns, *cases)

    def _check_index(self, index):
        if not is_below(index, len(self._cases)):
            raise InvalidNumber(index)

    def _check_row(self, index, row):
        self._check_index(index)
        if not is_row(row, self._columns, self._cases[index][0].domain):
            raise InvalidOperation("not a row over the values with so many columns")

    def __or__(self, other):
        if not isinstance(other, Examples) or (self._columns, self.shape) != (other.columns, other.shape):
            raise InvalidOperation("the other value is not examples of the same shape with as many columns")
        cases = self._cases + other.cases
        return Examples(self._columns, *cases)

    def __call__(self, query):
        return first_misfit(self, query) is None

    def __len__(self):
        return len(self._cases)

    def __iter__(self):
        return iter(self._cases)

    def __eq__(self, other):
        return isinstance(other, Examples) and self._columns == other._columns and self._cases == other._cases

    def __str__(self):
        return f"examples of {len(self._cases)} cases, {len(self._places)} rows that must"


def _rows_without(rows, row):
    """The rows without one of them."""
    if row not in rows:
        raise InvalidOperation("the row is not there")
    return tuple([other for other in rows if other != row])
