"""Boards: what stands on a desk at one time, databases and wishes."""

from askable.errors import UnknownName
from askable.wish.examples import Examples
from askable.wish.ladder import rung


class Board:
    """Databases of one shape under names, and wishes under names. A board never changes.

    A wish is a pair: a number of columns, and a dict from the pairs of the name of a database and a row
    to the word "must" or "bar".
    """

    def __init__(self, form, databases, told):
        self.form = form
        self.databases = {name: databases[name] for name in sorted(databases)}
        self.told = {wish: told[wish] for wish in sorted(told)}
        self._known_states = {}

    def database_of(self, name):
        """The database of this name."""
        if not isinstance(name, str) or name not in self.databases:
            raise UnknownName(name)
        return self.databases[name]

    def wish_of(self, wish):
        """The pair that the wish of this name is."""
        if not isinstance(wish, str) or wish not in self.told:
            raise UnknownName(wish)
        return self.told[wish]

    def with_database(self, name, database):
        """The board with one more database, or with another one under this name."""
        return Board(self.form, {**self.databases, name: database}, self.told)

    def with_wish(self, wish, columns, said):
        """The board with one more wish, or with another one under this name."""
        return Board(self.form, self.databases, {**self.told, wish: (columns, said)})

    def wished(self, wish):
        """The examples of a wish with a case for each database, of which there are some."""
        columns, said = self.told[wish]
        cases = [
            (database, _rows_said(said, name, "must"), _rows_said(said, name, "bar"))
            for name, database in self.databases.items()
        ]
        return Examples(columns, *cases)

    def state(self, wish, language):
        """What the ladder tells of a language for a wish, or "gone" without the wish, or without databases."""
        if wish not in self.told or not self.databases:
            return "gone"
        if (wish, language) not in self._known_states:
            self._known_states[(wish, language)] = rung(self.wished(wish), language)
        return self._known_states[(wish, language)]

    def __eq__(self, other):
        if not isinstance(other, Board):
            return False
        return self.form == other.form and self.databases == other.databases and self.told == other.told


def _rows_said(said, name, word):
    """The tuple of the rows of a database of which a wish says this word."""
    return tuple([row for (home, row), told in said.items() if home == name and told == word])
