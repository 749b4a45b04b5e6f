"""Keepers: maps from the keys of places which show that no query of a language fits."""

from askable.ask.languages import check_language
from askable.base.checks import is_below, rows_of
from askable.base.tables import Table
from askable.errors import InvalidNumber, InvalidOperation
from askable.keep.judge import KeepJudge
from askable.keep.keys import (
    KeyRows, PlaceMaps, are_places, check_key_bound, columns_at, domains_at, is_deep, is_key, is_single, number_of_keys,
)
from askable.keep.maps import is_value_map
from askable.wish.examples import check_examples


def keeper_places(examples, language):
    """The list of the tuples of places from which keepers for the language can be."""
    return [examples.places] if is_single(language) else [(place,) for place in examples.places]


def _check_target(examples, target):
    if not is_below(target, len(examples)):
        raise InvalidNumber(target)


def _maps_from(examples, language, places, target):
    """The maps from places of some keeper, behind all errors of a target."""
    check_examples(examples)
    check_language(language)
    if not are_places(examples, places) or places not in keeper_places(examples, language):
        raise InvalidOperation("not the places of some keeper for the language")
    _check_target(examples, target)
    check_key_bound(examples, language, places)
    return PlaceMaps(KeyRows(examples, language), places)


def kept_maps(examples, language, places, target):
    """A generator of all maps from places to a target that keep all signs, ascending by their values."""
    told = _maps_from(examples, language, places, target)
    search = told.search((), target)
    for values in search.fillings((), ()):
        yield dict(zip(search.order, values))


def thrown_rows(examples, language, places, target):
    """The table of the rows of a target to which the maps that keep all signs throw the places."""
    told = _maps_from(examples, language, places, target)
    columns = examples.columns
    rows = told.thrown_among(target, rows_of([examples.cases[target][0].domain] * columns))
    return Table(columns, *rows)


def check_keeper_bound(examples, language):
    """Raise an error if the bound refuses the keepers for the language."""
    # Maps from one place never meet the bound.
    if is_single(language):
        check_key_bound(examples, language, examples.places)


def keeper(examples, language):
    """A keeper of the examples for the language, or None."""
    check_examples(examples)
    check_language(language)
    check_keeper_bound(examples, language)
    rows = KeyRows(examples, language)
    for places in keeper_places(examples, language):
        told = PlaceMaps(rows, places).any_keeper()
        if told is not None:
            return told
    return None


def is_keeper(examples, language, value):
    """Whether the value is a keeper of the examples for the language."""
    check_examples(examples)
    check_language(language)
    if not _is_like_keeper(examples, value):
        return False
    _, places, target, mapping = value
    if places not in keeper_places(examples, language) or not _has_all_keys(examples, language, places, mapping):
        return False
    return _throw(examples, value) in examples.cases[target][2] and _keeps_signs(examples, language, value)


def _is_like_keeper(examples, value):
    """Whether the value has the form of a keeper, perhaps with some of the keys of its places alone."""
    if not isinstance(value, tuple) or len(value) != 4 or value[0] != "keeper":
        return False
    _, places, target, mapping = value
    if not are_places(examples, places) or not is_below(target, len(examples)) or not isinstance(mapping, dict):
        return False
    domains = domains_at(examples, places)
    values = examples.cases[target][0].domain
    if not all([is_key(key, domains) and mapping[key] in values for key in mapping]):
        return False
    return all([column in mapping for column in columns_at(examples, places)])


def _has_all_keys(examples, language, places, mapping):
    """Whether a dict from keys of places, with all columns among them, has just the keys of a map for the language."""
    return len(mapping) == number_of_keys(examples, language, places)


def _throw(examples, value):
    """The row to which a value like a keeper throws its places."""
    _, places, _, mapping = value
    return tuple([mapping[column] for column in columns_at(examples, places)])


def _keeps_signs(examples, language, value):
    """Whether the map of a value like a keeper, from all keys for the language, keeps all signs."""
    _, places, target, mapping = value
    rows = KeyRows(examples, language)
    judge = KeepJudge(mapping, is_deep(language), rows.by_case[target])
    for sign in rows.signs:
        if not judge.keeps(sign, rows.at_places(places, sign)):
            return False
    return True


def thrown_row(examples, value):
    """The row to which a value like a keeper throws its places."""
    check_examples(examples)
    _check_like_keeper(examples, value)
    return _throw(examples, value)


def _check_like_keeper(examples, value):
    if not _is_like_keeper(examples, value):
        raise InvalidOperation("not of the form of a keeper of the examples")


def done_behind(examples, value, target, mapping):
    """A value like a keeper, with another target, and with a map from the values of its target done behind it."""
    check_examples(examples)
    _check_like_keeper(examples, value)
    _check_target(examples, target)
    _, places, first, inner = value
    cases = examples.cases
    if not is_value_map(mapping, cases[first][0].domain, cases[target][0].domain):
        raise InvalidOperation("not a dict from all values of the one target to values of the other one")
    return "keeper", places, target, {key: mapping[inner[key]] for key in sorted(inner)}
