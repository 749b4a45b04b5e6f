"""Places of examples, their keys and key rows, and their rule."""

from askable.ask.languages import check_language
from askable.ask.rules import Rule, renamed_atom, variables_of
from askable.errors import InvalidOperation
from askable.keep.keys import (
    KeyRows, are_places, check_key_bound, columns_at, domains_at, is_deep, is_key, list_of_keys,
)
from askable.wish.examples import check_examples

# Behind the bound a rule of places never has more variables.
_VARIABLES = "abcdefghijklmnop"


def _check_places(examples, places):
    if not are_places(examples, places):
        raise InvalidOperation("not an ascending tuple of places of the examples")


def _check_all(examples, language, places):
    check_examples(examples)
    check_language(language)
    _check_places(examples, places)


def _check_sign(rows, sign):
    if sign not in rows.signs:
        raise InvalidOperation("not a sign of the language")


def columns_of(examples, places):
    """The tuple of the columns of places, one for each position."""
    check_examples(examples)
    _check_places(examples, places)
    return columns_at(examples, places)


def keys_of(examples, language, places):
    """The ascending tuple of the keys of a map from places."""
    _check_all(examples, language, places)
    check_key_bound(examples, language, places)
    return tuple(list_of_keys(examples, language, places))


def key_rows(examples, language, places, sign):
    """A generator of all key rows of a sign over the keys of a map from places, ascending."""
    _check_all(examples, language, places)
    rows = KeyRows(examples, language)
    _check_sign(rows, sign)
    check_key_bound(examples, language, places)
    yield from rows.over(places, sign)


def is_key_row(examples, language, places, sign, value):
    """Whether the value is a key row of a sign over the keys of a map from places."""
    _check_all(examples, language, places)
    rows = KeyRows(examples, language)
    _check_sign(rows, sign)
    if not isinstance(value, tuple) or len(value) != rows.width(sign):
        return False
    if not all([_is_key_of_map(examples, language, places, part) for part in value]):
        return False
    return rows.has(places, sign, value)


def _is_key_of_map(examples, language, places, value):
    if is_deep(language):
        return is_key(value, domains_at(examples, places))
    return value in columns_at(examples, places)


def rule_of(examples, language, places):
    """A pair of the rule of places and the dict from its variables to the keys."""
    _check_all(examples, language, places)
    check_key_bound(examples, language, places)
    return rule_at(KeyRows(examples, language), places)


def rule_at(rows, places):
    """The rule of places in the language of some key rows, and the dict from its variables to the keys.

    The variables are called by the order in which their keys stand in the head, and then by that of the keys:
    so places that differ in their values alone can have equal rules.
    """
    head = columns_at(rows.known_examples, places)
    atoms = rows.atoms_over(places)
    others = sorted({key for atom in atoms for key in variables_of(atom)} - set(head))
    order = list({key: True for key in head}) + others
    names = {key: _VARIABLES[at] for at, key in enumerate(order)}
    told = tuple([renamed_atom(atom, names) for atom in atoms])
    return Rule.of(tuple([names[key] for key in head]), told), {names[key]: key for key in order}
