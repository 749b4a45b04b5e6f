"""What tests find themselves by trying all, straight from the words of the document: maps, key rows, keepers, papers."""

import itertools
import random

from askable.ask.rules import Query
from askable.base.databases import Database
from askable.base.tables import Table
from askable.wish.examples import Examples
from support import all_rows, is_right_name, right_answers, true_in
from test_trees import is_right_tree


def signs_in(shape, language):
    """The ascending list of the signs of a language [0.11]."""
    last = language.split(" ")[2]
    signs = [("in", name) for name in shape]
    signs += [("out", name) for name in shape] if last == "not" else []
    return sorted(signs + ([("unlike",)] if last != "plain" else []))


def sign_width(shape, sign):
    return 2 if sign == ("unlike",) else shape[sign[1]]


def has_sign_row(database, sign, row):
    """Whether a row is one of a sign [0.9]."""
    if sign == ("unlike",):
        return row[0] != row[1]
    return (row in list(database[sign[1]])) == (sign[0] == "in")


def sign_rows(database, sign):
    rows = all_rows(database.domain, sign_width(database.shape, sign))
    return [row for row in rows if has_sign_row(database, sign, row)]


def dicts_from(keys, values):
    """All dicts from ascending keys to values, ascending by the tuples of their values."""
    return [dict(zip(keys, told)) for told in itertools.product(sorted(values), repeat=len(keys))]


def keeps_all(first, second, language, mapping):
    """Whether a map from all values of one database keeps the signs [5.1]."""
    for sign in signs_in(first.shape, language):
        for row in sign_rows(first, sign):
            if not has_sign_row(second, sign, tuple(mapping[value] for value in row)):
                return False
    return True


def right_maps(first, second, language):
    return [told for told in dicts_from(first.domain, second.domain) if keeps_all(first, second, language, told)]


def is_right_short_row(value, values):
    return isinstance(value, tuple) and len(value) <= 3 and all(isinstance(x, str) and x in values for x in value)


def is_right_places(examples, value):
    """Whether a value is an ascending tuple of places [0.13]."""
    if not isinstance(value, tuple) or not all(isinstance(place, tuple) and len(place) == 2 for place in value):
        return False
    for index, row in value:
        if isinstance(index, bool) or not isinstance(index, int) or not 0 <= index < len(examples.cases):
            return False
        if not isinstance(row, tuple) or row not in list(examples.cases[index][1]):
            return False
    return list(value) == sorted(set(value))


def right_places(examples):
    return tuple((index, row) for index, case in enumerate(examples.cases) for row in sorted(case[1]))


def right_columns(examples, places):
    return tuple(tuple(row[at] for _, row in places) for at in range(examples.columns))


def whole_keys(examples, places):
    """All keys of places, ascending."""
    return list(itertools.product(*[examples.cases[index][0].domain for index, _ in places]))


def right_keys(examples, language, places):
    """The ascending list of the keys of a map [0.14]."""
    if language.startswith("deep"):
        return whole_keys(examples, places)
    return sorted(set(right_columns(examples, places)))


def is_right_key_row(examples, places, sign, keys):
    """Whether a tuple of keys is a key row of a sign [0.13]."""
    for at, (index, _) in enumerate(places):
        if not has_sign_row(examples.cases[index][0], sign, tuple(key[at] for key in keys)):
            return False
    return True


def right_key_rows(examples, language, places, sign):
    """The key rows of a sign over the keys of a map, by trying all tuples of keys."""
    width = sign_width(examples.shape, sign)
    told = itertools.product(right_keys(examples, language, places), repeat=width)
    return [keys for keys in told if is_right_key_row(examples, places, sign, keys)]


def keeps_key_rows(examples, language, places, target, mapping, known=None):
    """Whether a map from keys keeps all signs of a language [0.14]."""
    database = examples.cases[target][0]
    for sign in signs_in(examples.shape, language):
        told = known[sign] if known else right_key_rows(examples, language, places, sign)
        for keys in told:
            if not has_sign_row(database, sign, tuple(mapping[key] for key in keys)):
                return False
    return True


def right_kept_maps(examples, language, places, target):
    """All maps from places to a target that keep all signs, by trying all dicts."""
    keys = right_keys(examples, language, places)
    known = {sign: right_key_rows(examples, language, places, sign) for sign in signs_in(examples.shape, language)}
    found = []
    for told in dicts_from(keys, examples.cases[target][0].domain):
        if keeps_key_rows(examples, language, places, target, told, known):
            found.append(told)
    return found


def thrown_by(examples, places, mapping):
    return tuple(mapping[column] for column in right_columns(examples, places))


def right_thrown(examples, language, places, target):
    told = right_kept_maps(examples, language, places, target)
    return sorted({thrown_by(examples, places, mapping) for mapping in told})


def places_of_keepers(examples, language):
    """The tuples of places from which keepers for a language can be [0.14]."""
    if language.split(" ")[1] == "one":
        return [right_places(examples)]
    return [(place,) for place in right_places(examples)]


def has_keeper(examples, language):
    """Whether there is a keeper, by trying all dicts."""
    for places in places_of_keepers(examples, language):
        for target, (_, _, barred) in enumerate(examples.cases):
            if set(right_thrown(examples, language, places, target)) & set(barred):
                return True
    return False


def is_index(value, many):
    return isinstance(value, int) and not isinstance(value, bool) and 0 <= value < many


def is_like_keeper(examples, value):
    """Whether a value has the form that thrown_row asks for (stage 8)."""
    if not isinstance(value, tuple) or len(value) != 4 or not isinstance(value[0], str) or value[0] != "keeper":
        return False
    _, places, target, mapping = value
    if not is_right_places(examples, places) or not is_index(target, len(examples.cases)) or not isinstance(mapping, dict):
        return False
    keys = whole_keys(examples, places)
    values = examples.cases[target][0].domain
    if not all(isinstance(key, tuple) and key in keys for key in mapping):
        return False
    if not all(isinstance(told, str) and told in values for told in mapping.values()):
        return False
    return all(column in mapping for column in right_columns(examples, places))


def is_right_keeper(examples, language, value):
    """Whether a value is a keeper, from the words of [0.14]."""
    if not is_like_keeper(examples, value):
        return False
    _, places, target, mapping = value
    if places not in places_of_keepers(examples, language):
        return False
    if sorted(mapping) != right_keys(examples, language, places):
        return False
    if thrown_by(examples, places, mapping) not in examples.cases[target][2]:
        return False
    return keeps_key_rows(examples, language, places, target, mapping)


def right_language(query):
    """The least language to which a query belongs [0.11]."""
    depth = "deep" if any(set(rule.variables) - set(rule.head) for rule in query.rules) else "flat"
    words = {atom[0] for rule in query.rules for atom in rule.atoms}
    last = "not" if "out" in words else "unlike" if "unlike" in words else "plain"
    return depth, "one" if len(query.rules) == 1 else "many", last


def is_query_of(query, language):
    """Whether a query belongs to a language."""
    orders = (("flat", "deep"), ("one", "many"), ("plain", "unlike", "not"))
    told = zip(orders, right_language(query), language.split(" "))
    return all(order.index(word) <= order.index(most) for order, word, most in told)


def right_misfits(examples, query):
    """All triples (index, row, must) at which a query does not do as it should, by filling in all values."""
    found = []
    for index, (database, must, barred) in enumerate(examples.cases):
        rows = {row for rule in query.rules for row in right_answers(rule, database)}
        found += [(index, row, True) for row in sorted(must) if row not in rows]
        found += [(index, row, False) for row in sorted(barred) if row in rows]
    return found


def is_right_way(query, database, row, value):
    """Whether a value is a way [0.16]."""
    if not isinstance(value, tuple) or len(value) != 2 or not is_index(value[0], len(query.rules)):
        return False
    rule, mapping = query.rules[value[0]], value[1]
    if not isinstance(mapping, dict) or set(mapping) != set(rule.variables):
        return False
    if not all(isinstance(told, str) and told in database.domain for told in mapping.values()):
        return False
    if tuple(mapping[name] for name in rule.head) != row:
        return False
    return all(true_in(database, atom, mapping) for atom in rule.atoms)


def is_right_fitting_paper(examples, value):
    """Whether a value is a fitting paper, from the words of [0.16]."""
    if not isinstance(value, tuple) or len(value) != 4 or not isinstance(value[0], str) or value[0] != "query":
        return False
    _, query, ways, trees = value
    if not isinstance(query, Query) or query.columns != examples.columns:
        return False
    if not all(name in examples.shape and examples.shape[name] == many for name, many in query.tables.items()):
        return False
    places = right_places(examples)
    if not isinstance(ways, tuple) or len(ways) != len(places) or not isinstance(trees, tuple) or len(trees) != len(query.rules):
        return False
    for (index, row), way in zip(places, ways):
        if not is_right_way(query, examples.cases[index][0], row, way):
            return False
    for rule, told in zip(query.rules, trees):
        if not isinstance(told, tuple) or len(told) != len(examples.cases):
            return False
        for (database, _, barred), tree in zip(examples.cases, told):
            if not is_right_tree(rule, database, barred, tree, {}):
                return False
    return True


def is_right_paper(examples, language, value):
    """Whether a value is a paper for a language [0.16]."""
    if is_right_keeper(examples, language, value):
        return True
    return is_right_fitting_paper(examples, value) and is_query_of(value[1], language)


SHAPES = [{}, {"none": 0}, {"one": 1}, {"two": 2}, {"one": 1, "two": 2}, {"none": 0, "two": 2}, {"two": 2, "twos": 2}, {"three": 3}]


def database_of(rng, values, shape, share=None):
    """A database of a shape with any rows."""
    tables = {}
    for name, columns in shape.items():
        part = rng.random() if share is None else share
        tables[name] = Table(columns, *[row for row in all_rows(values, columns) if rng.random() < part])
    return Database.of(values, tables)


def small_examples(rng, most_values=2, most_cases=2, most_places=2, columns=None):
    """Examples with few values, cases and places, and any tables of one shape."""
    shape = rng.choice(SHAPES)
    columns = rng.choice((0, 1, 1, 2, 2, 3)) if columns is None else columns
    left = rng.choice((0, 1, 2, most_places))
    cases = []
    for _ in range(rng.randint(1, most_cases)):
        database = database_of(rng, tuple("abcdef"[:rng.randint(1, most_values)]), shape)
        rows = all_rows(database.domain, columns)
        must = rng.sample(rows, min(len(rows), left, rng.randint(0, most_places)))
        left -= len(must)
        share = rng.random()
        barred = None if rng.random() < 0.4 else tuple(row for row in rows if rng.random() < share)
        cases.append((database, tuple(must), barred))
    return Examples(columns, *cases)


def many_examples(many, seed, **told):
    """Many such examples."""
    rng = random.Random(seed)
    for _ in range(many):
        yield small_examples(rng, **told), rng


def is_right_mapping(value, keys, values):
    """Whether a value is a dict from just some keys to values."""
    if not isinstance(value, dict) or len(value) != len(keys) or not all(key in value for key in keys):
        return False
    return all(isinstance(value[key], str) and value[key] in values for key in keys)


def is_dict_of_names(value):
    return isinstance(value, dict) and all(is_right_name(key) and is_right_name(told) for key, told in value.items())
