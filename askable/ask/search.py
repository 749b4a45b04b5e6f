"""The search for values with which all of some atoms are true in a database."""

from askable.ask.rules import sign_of, variables_of


def head_first(head, names):
    """The tuple of the names with those of a head in front: a search for a given row is shortest so."""
    return tuple(sorted(set(head))) + tuple([name for name in names if name not in head])


def _groups(atoms, place):
    """The dict from ascending tuples of places to the list of the atoms there, each with its pattern."""
    groups = {}
    for atom in atoms:
        told = [place[name] for name in variables_of(atom)]
        places = tuple(sorted(set(told)))
        groups.setdefault(places, []).append((atom, tuple([places.index(at) for at in told])))
    return groups


class Search:
    """Atoms in a database, made ready for a search that gives values to their names in an order.

    The names are the variables of a rule, or whatever else stands for them in the atoms. Values
    are told by their numbers, and sets of values by integers with a bit for each number.
    """

    def __init__(self, order, atoms, signs):
        self.order = order
        self.choices = signs.choices
        self._place = {name: at for at, name in enumerate(order)}
        self._all = (1 << len(self.choices)) - 1
        self._numbers = [self._bits(mask) for mask in range(self._all + 1)]
        self._broken = None
        self._levels = [[] for _ in order]
        for places, told in _groups(atoms, self._place).items():
            known = [(atom, signs.mask(sign_of(atom), pattern)) for atom, pattern in told]
            if len(places) > 0:
                self._add(places, known)
            elif self._broken is None:
                self._broken = self._broken_at(known, 0)

    def _bits(self, mask):
        return tuple([at for at in range(len(self.choices)) if mask >> at & 1])

    def _add(self, places, known):
        """Put in atoms with these places of their names: which values the last one can have behind the others."""
        many = len(self.choices)
        together = -1
        for _, mask in known:
            together = together & mask
        starts = (1, many, many * many)[len(places) - 1]
        left = [together >> start * many & self._all for start in range(starts)]
        if left != [self._all] * starts:
            self._levels[places[-1]].append((places[:-1], left, known))

    def _broken_at(self, known, index):
        """The first of some atoms that the row of values with this index breaks, or None."""
        for atom, mask in known:
            if not mask >> index & 1:
                return atom
        return None

    def _start(self, places, told):
        """The index of the row of the values at these places among all such rows."""
        index = 0
        for at in places:
            index = index * len(self.choices) + told[at]
        return index

    def broken_atom(self, told):
        """An atom that the last of these values of the first names breaks, or None."""
        if len(told) == 0:
            return self._broken
        for places, left, known in self._levels[len(told) - 1]:
            start = self._start(places, told)
            if not left[start] >> told[-1] & 1:
                return self._broken_at(known, start * len(self.choices) + told[-1])
        return None

    def fillings(self, head, row):
        """A generator of all rows of values, in the order, with which all atoms are true and the head has a row.

        They ascend if the names of the head come first in the order, or if there are none.
        """
        masks = [self._all] * len(self.order)
        for name, value in zip(head, row):
            at = self._place[name]
            masks[at] = masks[at] & 1 << self.choices.index(value)
        if self._broken is None and 0 not in masks:
            yield from self._longer(masks, ())

    def _longer(self, masks, told):
        """A generator of the fillings that begin with what is told, by the values that each name can have."""
        at = len(told)
        if at == len(self.order):
            yield tuple([self.choices[number] for number in told])
            return
        allowed = masks[at]
        for places, left, _ in self._levels[at]:
            allowed = allowed & left[self._start(places, told)]
        for number in self._numbers[allowed]:
            longer = told + (number,)
            yield from self._longer(masks, longer)

    def first_filling(self, head, row):
        """The first of the fillings, as a dict from the names to values, or None."""
        for told in self.fillings(head, row):
            return dict(zip(self.order, told))
        return None


def rule_search(rule, signs):
    """The search for the values of the variables of a rule, with those of its head in front."""
    return Search(head_first(rule.head, rule.variables), rule.atoms, signs)
