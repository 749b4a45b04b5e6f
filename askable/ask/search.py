"""The search for the values of the variables of a rule."""

from askable.ask.rules import variables_of
from askable.ask.truth import holds, rows_under_names
from askable.base.checks import rows_of


def _broken_rows(rule, database, order):
    """For each number of variables with values, from 0: the atoms that the last of these can break.

    Atoms of the same variables go together: their positions in the order, with a dict
    from the rows of values that break an atom to the first such atom.
    """
    rows = rows_under_names(database)
    place = {variable: at for at, variable in enumerate(order)}
    broken = [{} for _ in range(len(order) + 1)]
    for atom in rule:
        positions = tuple(sorted({place[variable] for variable in variables_of(atom)}))
        names = [order[at] for at in positions]
        known = broken[max(positions, default=-1) + 1].setdefault(positions, {})
        for told in rows_of([database.domain] * len(positions)):
            if told not in known and not holds(rows, atom, dict(zip(names, told))):
                known[told] = atom
    return [[(at, level[at]) for at in level if len(level[at]) > 0] for level in broken]


class Search:
    """A rule in a database, made ready for a search: variables of the head come first in its order."""

    def __init__(self, rule, database):
        self.order = tuple(sorted(set(rule.head))) + rule.hidden
        self.choices = database.domain
        self._head = rule.head
        self._broken = _broken_rows(rule, database, self.order)

    def broken_atom(self, told):
        """An atom that the last of these values of the first variables breaks, or None."""
        for positions, known in self._broken[len(told)]:
            atom = known.get(tuple([told[at] for at in positions]))
            if atom is not None:
                return atom
        return None

    def fillings(self, row):
        """A generator of all rows of values, in the order of the variables, by which the row is an answer."""
        mapping = dict(zip(self._head, row))
        if tuple([mapping[variable] for variable in self._head]) == row:
            start = tuple([mapping[variable] for variable in sorted(mapping)])
            yield from self._longer(start, ())

    def _longer(self, start, told):
        """A generator of the fillings that begin with what is told, and with the start."""
        at = len(told)
        if self.broken_atom(told) is not None:
            return
        if at == len(self.order):
            yield told
            return
        for value in start[at:at + 1] or self.choices:
            longer = told + (value,)
            yield from self._longer(start, longer)

    def has_answer(self, row):
        """Whether the row is an answer."""
        for _ in self.fillings(row):
            return True
        return False
