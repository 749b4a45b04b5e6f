"""Keys of places, and the key rows of signs over them: what places, keepers and papers need."""

from askable.ask.answers import MAX_SEARCH, is_beyond
from askable.ask.languages import signs_of
from askable.ask.rules import atom_over
from askable.ask.search import Search, head_first
from askable.ask.truth import Signs
from askable.base.checks import is_below, rows_of
from askable.errors import InvalidOperation, TooMany


def _is_place(examples, value):
    if not isinstance(value, tuple) or len(value) != 2 or not is_below(value[0], len(examples)):
        return False
    return isinstance(value[1], tuple) and value[1] in examples.cases[value[0]][1]


def are_places(examples, value):
    """Whether the value is an ascending tuple of places of the examples."""
    if not isinstance(value, tuple) or not all([_is_place(examples, place) for place in value]):
        return False
    return all([value[at] < value[at + 1] for at in range(len(value) - 1)])


def columns_at(examples, places):
    """The tuple of the columns of places."""
    return tuple([tuple([row[at] for _, row in places]) for at in range(examples.columns)])


def domains_at(examples, places):
    """The list of the domains of the databases of places."""
    cases = examples.cases
    return [cases[index][0].domain for index, _ in places]


def is_key(value, domains):
    """Whether the value is a key for places with these domains."""
    if not isinstance(value, tuple) or len(value) != len(domains):
        return False
    return all([part in values for part, values in zip(value, domains)])


def is_deep(language):
    """Whether rules of the language can have hidden variables."""
    return language.split(" ")[0] == "deep"


def is_single(language):
    """Whether a query of the language has exactly one rule."""
    return language.split(" ")[1] == "one"


def check_several(language):
    """Raise an error if each query of the language has one rule."""
    if is_single(language):
        raise InvalidOperation("a language in which each query has one rule")


def number_of_keys(examples, language, places):
    """The number of the keys of a map from places."""
    if not is_deep(language):
        return len(set(columns_at(examples, places)))
    many = 1
    for values in domains_at(examples, places):
        many = many * len(values)
    return many


def list_of_keys(examples, language, places):
    """The ascending list of the keys of a map from places."""
    if is_deep(language):
        return rows_of(domains_at(examples, places))
    return sorted(set(columns_at(examples, places)))


def is_refused(examples, language, places):
    """Whether the bound refuses the maps from places."""
    most = max([len(database.domain) for database, _, _ in examples])
    return is_beyond(most, number_of_keys(examples, language, places))


def check_key_bound(examples, language, places):
    """Raise an error if the bound refuses the maps from places."""
    if is_refused(examples, language, places):
        raise TooMany(MAX_SEARCH)


class KeyRows:
    """The signs of a language in all cases of examples, made ready for the key rows over any places."""

    def __init__(self, examples, language):
        self.known_examples = examples
        self.word = language
        self.signs = signs_of(examples.cases[0][0], language)
        self.by_case = [Signs(database) for database, _, _ in examples]
        self._known_rows = [{sign: known.rows_in(sign) for sign in self.signs} for known in self.by_case]

    def width(self, sign):
        """The number of columns of a sign."""
        return self.by_case[0].width(sign)

    def at_places(self, places, sign):
        """The list of the lists of the rows of a sign in the database of each place."""
        return [self._known_rows[index][sign] for index, _ in places]

    def has(self, places, sign, keys):
        """Whether a tuple of keys, as many as the sign has columns, is a key row of the sign."""
        for at, (index, _) in enumerate(places):
            if not self.by_case[index].has(sign, tuple([key[at] for key in keys])):
                return False
        return True

    def over(self, places, sign):
        """The ascending list of the key rows of a sign over the keys of a map from places."""
        if is_deep(self.word):
            return sorted(self._put_together(places, sign))
        keys = list_of_keys(self.known_examples, self.word, places)
        return [told for told in rows_of([keys] * self.width(sign)) if self.has(places, sign, told)]

    def _put_together(self, places, sign):
        """The list of the key rows that the rows of a sign make, one at each place."""
        found = [((),) * self.width(sign)]
        for rows in self.at_places(places, sign):
            found = [tuple([key + (value,) for key, value in zip(keys, row)]) for keys in found for row in rows]
        return found

    def atoms_over(self, places):
        """The list of the atoms over keys, one for each key row of each sign, or for two that are each other turned."""
        told = [(sign, keys) for sign in self.signs for keys in self.over(places, sign)]
        return [atom_over(sign, keys) for sign, keys in told if sign[0] != "unlike" or keys[0] <= keys[1]]


class PlaceMaps:
    """The maps from some places that keep the signs of a language, made ready for a search in any target."""

    def __init__(self, rows, places):
        self._rows = rows
        self._from = places
        self.thrown_keys = columns_at(rows.known_examples, places)
        self.all_keys = list_of_keys(rows.known_examples, rows.word, places)
        self._known_atoms = rows.atoms_over(places)

    def search(self, head, target):
        """The search for the maps to a target, with the keys of a head in front."""
        return Search(head_first(head, self.all_keys), self._known_atoms, self._rows.by_case[target])

    def thrown_among(self, target, rows):
        """The list of those of some rows of a target to which a map throws the places."""
        search = self.search(self.thrown_keys, target)
        return [row for row in rows if search.first_filling(self.thrown_keys, row) is not None]

    def keeper_to(self, target, rows):
        """A keeper that throws the places to one of some rows of a target, or None."""
        search = self.search(self.thrown_keys, target)
        for row in rows:
            mapping = search.first_filling(self.thrown_keys, row)
            if mapping is not None:
                return "keeper", self._from, target, {key: mapping[key] for key in self.all_keys}
        return None

    def any_keeper(self):
        """A keeper that throws the places to a barred row, or None."""
        for target, (_, _, barred) in enumerate(self._rows.known_examples):
            told = self.keeper_to(target, barred) if barred else None
            if told is not None:
                return told
        return None
