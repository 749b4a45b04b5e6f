"""Atoms, rules of atoms, and queries of rules."""

from askable.ask.languages import is_within
from askable.base.checks import is_below
from askable.base.tables import MAX_COLUMNS, check_columns, is_name, is_renaming
from askable.errors import InvalidNumber, InvalidOperation, InvalidQuery, InvalidRule

MAX_VARIABLES = 16
MAX_ATOMS = 20000


def _are_variables(value):
    return isinstance(value, tuple) and len(value) <= MAX_COLUMNS and all([is_name(part) for part in value])


def is_atom(value):
    """Whether the value is an atom, as rules keep it."""
    if not isinstance(value, tuple) or len(value) != 3 or not is_name(value[1]):
        return False
    if value[0] == "unlike":
        return is_name(value[2]) and value[1] <= value[2]
    return value[0] in ("in", "out") and _are_variables(value[2])


def kept_atom(value):
    """The atom as rules keep it, with the lesser variable of "unlike" first, or None for what is no atom."""
    if is_atom(value):
        return value
    if not isinstance(value, tuple) or len(value) != 3 or value[0] != "unlike":
        return None
    turned = ("unlike", value[2], value[1])
    return turned if is_atom(turned) else None


def variables_of(atom):
    """The tuple of the variables at the positions of an atom."""
    return atom[1:] if atom[0] == "unlike" else atom[2]


def sign_of(atom):
    """The sign of an atom."""
    return atom[:1] if atom[0] == "unlike" else atom[:2]


def atom_over(sign, names):
    """The atom with a sign and a tuple of names for its columns."""
    return sign + names if sign[0] == "unlike" else (*sign, names)


def check_rule(rule):
    """Raise an error if the rule is none."""
    if not isinstance(rule, Rule):
        raise InvalidRule("not a rule")


def check_query(query):
    """Raise an error if the query is none."""
    if not isinstance(query, Query):
        raise InvalidQuery("not a query")


def renamed_atom(atom, mapping):
    """The atom with other names for its columns."""
    return atom_over(sign_of(atom), tuple([mapping[variable] for variable in variables_of(atom)]))


class Rule:
    """A head of variables, and atoms. A rule never changes."""

    def __init__(self, head, *atoms):
        kept = [kept_atom(atom) for atom in atoms]
        if not _are_variables(head) or None in kept:
            raise InvalidRule("the head is not a tuple of at most three variables, or an atom is none")
        numbers = sorted({(atom[1], len(atom[2])) for atom in kept if atom[0] != "unlike"})
        self._head = head
        self._atoms = tuple(sorted(set(kept)))
        self._tables = dict(numbers)
        self._variables = tuple(sorted(set(head) | {name for atom in kept for name in variables_of(atom)}))
        if len(self._tables) < len(numbers):
            raise InvalidRule("a table has unlike numbers of variables")
        if len(self._variables) > MAX_VARIABLES or len(self._atoms) > MAX_ATOMS:
            raise InvalidRule("more than 16 variables, or more than 20000 atoms")

    @classmethod
    def of(cls, head, atoms):
        """The rule of a tuple of atoms."""
        if not isinstance(atoms, tuple):
            raise InvalidRule("the atoms are not a tuple")
        return cls(head, *atoms)

    @property
    def head(self):
        """The tuple of the variables whose values are the answers."""
        return self._head

    @property
    def atoms(self):
        """The ascending tuple of the atoms."""
        return self._atoms

    @property
    def variables(self):
        """The ascending tuple of the variables of the head and the atoms."""
        return self._variables

    @property
    def hidden(self):
        """The ascending tuple of the variables that are not in the head."""
        return tuple([variable for variable in self._variables if variable not in self._head])

    @property
    def tables(self):
        """The dict from the names of the tables in the atoms to their numbers of variables."""
        return dict(self._tables)

    def with_atom(self, atom):
        """The rule with one more atom, if it does not have it."""
        return Rule(self._head, *self._atoms, atom)

    def without_atom(self, atom):
        """The rule with one atom less."""
        left = kept_atom(atom)
        if left not in self._atoms:
            raise InvalidOperation("not an atom of the rule")
        atoms = [other for other in self._atoms if other != left]
        return Rule(self._head, *atoms)

    def renamed(self, mapping):
        """The rule with other variables."""
        if not is_renaming(mapping, self._variables):
            raise InvalidOperation("the mapping is not a dict from just the variables to different names")
        head = tuple([mapping[variable] for variable in self._head])
        atoms = [renamed_atom(atom, mapping) for atom in self._atoms]
        return Rule(head, *atoms)

    def __len__(self):
        return len(self._atoms)

    def __contains__(self, value):
        return value in self._atoms

    def __iter__(self):
        return iter(self._atoms)

    def __eq__(self, other):
        return isinstance(other, Rule) and self._head == other._head and self._atoms == other._atoms

    def __str__(self):
        return f"rule of {len(self._atoms)} atoms, {len(self._variables)} variables"


def _least_language(rules):
    """The least language to which a query of these rules belongs."""
    depth = "deep" if any([len(rule.hidden) > 0 for rule in rules]) else "flat"
    number = "one" if len(rules) == 1 else "many"
    words = {atom[0] for rule in rules for atom in rule}
    last = "not" if "out" in words else "unlike" if "unlike" in words else "plain"
    return f"{depth} {number} {last}"


class Query:
    """A number of columns, and rules with so many variables in their heads. A query never changes."""

    def __init__(self, columns, *rules):
        check_columns(columns)
        if not all([isinstance(rule, Rule) and len(rule.head) == columns for rule in rules]):
            raise InvalidQuery("a rule is none, or has a head of another length")
        numbers = sorted({pair for rule in rules for pair in rule.tables.items()})
        different = {(rule.head, rule.atoms): rule for rule in rules}
        self._columns = columns
        self._rules = tuple([different[place] for place in sorted(different)])
        self._tables = dict(numbers)
        self._language = _least_language(self._rules)
        if len(self._tables) < len(numbers):
            raise InvalidQuery("a table has unlike numbers of variables")

    @classmethod
    def of(cls, columns, rules):
        """The query of a tuple of rules."""
        check_columns(columns)
        if not isinstance(rules, tuple):
            raise InvalidQuery("the rules are not a tuple")
        return cls(columns, *rules)

    @property
    def columns(self):
        """The number of columns."""
        return self._columns

    @property
    def rules(self):
        """The tuple of the different rules, ascending by their heads and then by their atoms."""
        return self._rules

    @property
    def tables(self):
        """The dict from the names of the tables in the atoms to their numbers of variables."""
        return dict(self._tables)

    @property
    def language(self):
        """The least language to which the query belongs."""
        return self._language

    def is_in(self, language):
        """Whether the query belongs to a language."""
        return is_within(self._language, language)

    def without(self, *indices):
        """The query without some of its rules."""
        for index in indices:
            self._check_index(index)
        rules = [rule for at, rule in enumerate(self._rules) if at not in indices]
        return Query(self._columns, *rules)

    def _check_index(self, index):
        if not is_below(index, len(self._rules)):
            raise InvalidNumber(index)

    def __getitem__(self, index):
        self._check_index(index)
        return self._rules[index]

    def __or__(self, other):
        if not isinstance(other, Query) or self._columns != other.columns:
            raise InvalidOperation("the other value is not a query with as many columns")
        rules = self._rules + other.rules
        return Query(self._columns, *rules)

    def __len__(self):
        return len(self._rules)

    def __iter__(self):
        return iter(self._rules)

    def __eq__(self, other):
        return isinstance(other, Query) and self._columns == other._columns and self._rules == other._rules

    def __str__(self):
        return f"query of {len(self._rules)} rules, {self._columns} columns"
