"""Lean queries: what can be left out of a query that fits."""

from askable.ask.answers import QuerySearch
from askable.ask.rules import Query, Rule
from askable.ask.trees import atoms_in, tree_of
from askable.ask.truth import Signs
from askable.base.lots import lots_of
from askable.errors import InvalidOperation, TooMany
from askable.wish.examples import first_misfit

MAX_PARTS = 10


class Fit:
    """Examples, made ready for a look at many rules that come from those of a query that fits."""

    def __init__(self, examples, query):
        if first_misfit(examples, query) is not None:
            raise InvalidOperation("the query does not fit")
        self._by_case = [(Signs(database), must, barred) for database, must, barred in examples]

    def is_right(self, rule):
        """Whether no barred row is an answer of the rule."""
        for signs, _, barred in self._by_case:
            search = QuerySearch(Query(len(rule.head), rule), signs)
            for row in barred:
                if search.has_answer(row):
                    return False
        return True

    def reach(self, rule):
        """An integer with a bit for each place: whether its row is an answer of the rule."""
        told = []
        for signs, must, _ in self._by_case:
            search = QuerySearch(Query(len(rule.head), rule), signs)
            told = told + [search.has_answer(row) for row in must]
        return sum([1 << at for at, has in enumerate(told) if has])

    def used_atoms(self, rule):
        """The ascending list of atoms of a rule that are enough to bar the barred rows."""
        found = [atom for signs, _, barred in self._by_case for atom in atoms_in(tree_of(rule, signs, barred))]
        return sorted(set(found))

    def needed_atoms(self, rule):
        """The ascending list of the atoms of a rule without which, alone, a barred row is an answer."""
        return [atom for atom in self.used_atoms(rule) if not self.is_right(rule.without_atom(atom))]

    def lean_rule(self, rule):
        """The rule without atoms, one after another, as long as no barred row is an answer."""
        used = self.used_atoms(rule)
        kept = Rule.of(rule.head, tuple(used))
        # An atom that is needed stays so without others, so one look at each of them is enough.
        for atom in used:
            less = kept.without_atom(atom)
            if self.is_right(less):
                kept = less
        return kept

    def needed_rules(self, rules):
        """The list of the indices of rules without which, alone, a row that must come is no answer."""
        told = [self.reach(rule) for rule in rules]
        return [at for at in range(len(told)) if _joined(told[:at] + told[at + 1:]) != _joined(told)]

    def lean_query(self, query):
        """The query without rules, one after another, as long as all rows that must come are answers."""
        told = [self.reach(rule) for rule in query]
        left = list(range(len(told)))
        for at in range(len(told)):
            others = [other for other in left if other != at]
            if _joined([told[other] for other in others]) == _joined(told):
                left = others
        needless = [at for at in range(len(told)) if at not in left]
        return query.without(*needless)

    def right_parts(self, rule):
        """The list of the rules that come from a rule and do not have a barred row as an answer."""
        atoms = rule.atoms
        right = {}
        for lot in reversed(list(lots_of(atoms))):
            # With fewer atoms a rule has more answers: nothing comes from a part that is not right.
            longer = [tuple(sorted(lot + (atom,))) for atom in atoms if atom not in lot]
            part = Rule.of(rule.head, lot)
            if all([other in right for other in longer]) and self.is_right(part):
                right[lot] = part
        return list(right.values())


def _joined(masks):
    """The integer with all bits of some integers."""
    together = 0
    for mask in masks:
        together = together | mask
    return together


def is_lean(examples, query):
    """Whether no query that fits comes from the query by leaving out one atom, or one rule."""
    fit = Fit(examples, query)
    if not all([len(fit.needed_atoms(rule)) == len(rule) for rule in query]):
        return False
    return len(fit.needed_rules(query.rules)) == len(query)


def lean(examples, query):
    """A lean query that comes from the query."""
    fit = Fit(examples, query)
    # Whether an atom is needed does not depend on other rules. Rules go last: with fewer atoms they have more answers.
    rules = [fit.lean_rule(rule) for rule in query]
    return fit.lean_query(Query(query.columns, *rules))


def needed_atoms(examples, query):
    """The ascending tuple of the pairs (index of a rule, atom) without which, alone, the query does not fit."""
    fit = Fit(examples, query)
    return tuple([(index, atom) for index, rule in enumerate(query) for atom in fit.needed_atoms(rule)])


def needed_rules(examples, query):
    """The ascending tuple of the indices of the rules without which, alone, the query does not fit."""
    return tuple(Fit(examples, query).needed_rules(query.rules))


def shortest(examples, query):
    """A query that fits and comes from the query, with the fewest rules and atoms."""
    fit = Fit(examples, query)
    if len(query) + sum([len(rule) for rule in query]) > MAX_PARTS:
        raise TooMany(MAX_PARTS)
    # The fewest rules and atoms by which some places are reached, with their number.
    fewest = {0: (0, ())}
    for rule in query:
        fewest = _with_parts(fewest, [(fit.reach(part), part) for part in fit.right_parts(rule)])
    rules = fewest[_joined(list(fewest))][1]
    return Query(query.columns, *rules)


def _with_parts(fewest, parts):
    """What can be reached with the fewest rules and atoms if one of some more rules is allowed, too."""
    found = dict(fewest)
    for before, (many, rules) in fewest.items():
        for reach, part in parts:
            longer = many + 1 + len(part)
            if before | reach not in found or found[before | reach][0] > longer:
                found[before | reach] = (longer, rules + (part,))
    return found
