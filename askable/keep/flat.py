"""Flat rules: what rules without hidden variables can do, and how few of them are enough."""

from askable.ask.answers import QuerySearch
from askable.ask.languages import check_language
from askable.ask.rules import Query
from askable.ask.truth import Signs
from askable.base.checks import rows_of
from askable.base.databases import check_database
from askable.base.lots import greatest_lots, lots_of, shorter_lots
from askable.base.tables import check_columns
from askable.errors import InvalidOperation, NoQuery, TooMany
from askable.keep.keepers import keeper
from askable.keep.keys import KeyRows, PlaceMaps, check_several, is_deep
from askable.keep.maps import check_alike, check_rows_of_two, check_short_row
from askable.keep.places import rule_at
from askable.wish.examples import Examples, check_examples

MAX_PLACES = 8


def _check_flat(language):
    check_language(language)
    if is_deep(language):
        raise InvalidOperation("not a flat language")


def flat_rule(database, row, language):
    """A flat rule of a row of a database."""
    check_database(database)
    check_short_row(row, database)
    _check_flat(language)
    return _rule_of_row(database, row, language)


def _rule_of_row(database, row, language):
    alone = Examples(len(row), (database, (row,), ()))
    return rule_at(KeyRows(alone, language), alone.places)[0]


def leads_flat(first, row, second, other, language):
    """Whether the other row of the second database is an answer of the flat rule of the row of the first one."""
    check_rows_of_two(first, row, second, other)
    _check_flat(language)
    check_alike(first, row, second, other)
    return QuerySearch(Query(len(row), _rule_of_row(first, row, language)), Signs(second)).has_answer(other)


def flat_kinds(database, columns, language):
    """The ascending tuple of the kinds of all rows of a database with so many columns."""
    check_database(database)
    check_columns(columns)
    _check_flat(language)
    alone = Examples(columns, (database, tuple(rows_of([database.domain] * columns)), ()))
    rows = KeyRows(alone, language)
    kinds = {}
    for place in alone.places:
        # As variables are called by their order in the head, rows of one kind have equal flat rules, and others do not.
        rule, _ = rule_at(rows, (place,))
        kinds.setdefault((rule.head, rule.atoms), []).append(place[1])
    return tuple(sorted([tuple(kind) for kind in kinds.values()]))


def check_few_places(examples):
    """Raise an error if there are more than eight places."""
    if len(examples.places) > MAX_PLACES:
        raise TooMany(MAX_PLACES)


def _joint_lots(examples, language):
    """The list of the tuples of joint places, told by their indices, shorter ones first."""
    places = examples.places
    rows = KeyRows(examples, language)
    joint = {}
    for lot in lots_of(tuple(range(len(places))))[1:]:
        # Some of joint places are joint, too, so only what is put together from such can be.
        if len(lot) == 1 or all([part in joint for part in shorter_lots(lot)]):
            if PlaceMaps(rows, tuple([places[at] for at in lot])).any_keeper() is None:
                joint[lot] = True
    return list(joint)


def joint_sets(examples, language):
    """The ascending tuple of the greatest tuples of joint places, told by their indices."""
    check_examples(examples)
    _check_flat(language)
    check_few_places(examples)
    return greatest_lots(_joint_lots(examples, language))


def fewest_rules(examples, language):
    """A query of the language with the fewest rules that fits."""
    check_examples(examples)
    _check_flat(language)
    check_several(language)
    told = keeper(examples, language)
    if told is not None:
        raise NoQuery(told)
    check_few_places(examples)
    places = examples.places
    rows = KeyRows(examples, language)
    lots = _fewest_lots(_joint_lots(examples, language), len(places))
    rules = [rule_at(rows, tuple([places[at] for at in lot]))[0] for lot in lots]
    return Query(examples.columns, *rules)


def _fewest_lots(lots, many):
    """The fewest of some lots in which all of so many indices stand, each of which stands in some lot."""
    by_mask = {sum([1 << at for at in lot]): lot for lot in lots}
    # The masks of the indices that stand in some number of lots together, each with such lots.
    reached = {0: ()}
    whole = (1 << many) - 1
    while whole not in reached:
        reached = {mask | more: told + (by_mask[more],) for mask, told in reached.items() for more in by_mask}
    return reached[whole]
