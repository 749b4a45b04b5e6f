"""Papers: queries that fit, shown row by row and choice by choice, or keepers."""

from askable.ask.answers import QuerySearch, accepts_way
from askable.ask.rules import Query
from askable.ask.trees import accepts_tree, tree_of
from askable.ask.truth import Signs, meets
from askable.errors import InvalidOperation, NoQuery
from askable.keep.keepers import is_keeper, keeper, keeper_places
from askable.keep.keys import KeyRows
from askable.keep.places import rule_at
from askable.wish.examples import check_examples, first_misfit


def fitting_paper(examples, query):
    """A fitting paper with a query."""
    if first_misfit(examples, query) is not None:
        raise InvalidOperation("the query does not fit")
    told = []
    for database, must, _ in examples:
        search = QuerySearch(query, Signs(database))
        told = told + [search.way(row) for row in must]
    return _paper_with(examples, query, told)


def _paper_with(examples, query, told):
    """The fitting paper with a query and the ways to the rows of all places."""
    by_case = [(Signs(database), barred) for database, _, barred in examples]
    trees = [tuple([tree_of(rule, signs, barred) for signs, barred in by_case]) for rule in query]
    return "query", query, tuple(told), tuple(trees)


def is_fitting_paper(examples, value):
    """Whether the value is a fitting paper, with any query."""
    check_examples(examples)
    if not isinstance(value, tuple) or len(value) != 4 or value[0] != "query":
        return False
    _, query, told, trees = value
    if not isinstance(query, Query) or query.columns != examples.columns or not meets(query.tables, examples.shape):
        return False
    by_case = [Signs(database) for database, _, _ in examples]
    return _are_ways(examples, query, by_case, told) and _are_trees(examples, query, by_case, trees)


def _are_ways(examples, query, by_case, value):
    """Whether the value is a tuple with a way to the row of each place."""
    places = examples.places
    if not isinstance(value, tuple) or len(value) != len(places):
        return False
    return all([accepts_way(query, by_case[index], row, way) for (index, row), way in zip(places, value)])


def _are_trees(examples, query, by_case, value):
    """Whether the value is a tuple with a tuple of closed trees for each rule, one for each case."""
    if not isinstance(value, tuple) or len(value) != len(query):
        return False
    return all([_are_trees_of(examples, rule, by_case, trees) for rule, trees in zip(query, value)])


def _are_trees_of(examples, rule, by_case, value):
    if not isinstance(value, tuple) or len(value) != len(examples):
        return False
    return all([
        accepts_tree(rule, signs, barred, tree) for (_, _, barred), signs, tree in zip(examples, by_case, value)
    ])


def is_askable(examples, language):
    """Whether some query of the language fits."""
    return keeper(examples, language) is None


def query_for(examples, language):
    """A query of the language that fits."""
    told = keeper(examples, language)
    if told is not None:
        raise NoQuery(told)
    return _query_by(examples, _rules_by_places(examples, language))


def _rules_by_places(examples, language):
    """The list of the pairs of places from which keepers can be, and their rule with the dict from its variables."""
    rows = KeyRows(examples, language)
    return [(places, rule_at(rows, places)) for places in keeper_places(examples, language)]


def _query_by(examples, told):
    """The query of the rules of such pairs."""
    rules = [rule for _, (rule, _) in told]
    return Query(examples.columns, *rules)


def paper(examples, language):
    """A paper of the examples for the language."""
    known = keeper(examples, language)
    if known is not None:
        return known
    told = _rules_by_places(examples, language)
    query = _query_by(examples, told)
    found = []
    for places, (rule, mapping) in told:
        index = query.rules.index(rule)
        # The rule of places gives the row of each of them by the values that the keys have there.
        found = found + [(index, {name: key[at] for name, key in mapping.items()}) for at in range(len(places))]
    return _paper_with(examples, query, found)


def is_paper(examples, language, value):
    """Whether the value is a paper of the examples for the language."""
    if is_keeper(examples, language, value):
        return True
    return is_fitting_paper(examples, value) and value[1].is_in(language)


def query_of(examples, language, value):
    """The query that a paper tells, or None for a keeper."""
    if not is_paper(examples, language, value):
        raise InvalidOperation("not a paper of the examples for the language")
    return value[1] if value[0] == "query" else None
