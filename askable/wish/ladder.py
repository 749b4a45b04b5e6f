"""The ladder: which of the twelve languages can do what examples wish, and why others cannot."""

from askable.ask.languages import LANGUAGES, check_language, is_within
from askable.base.lots import lots_of, shorter_lots
from askable.errors import InvalidOperation
from askable.keep.flat import check_few_places
from askable.keep.keepers import check_keeper_bound
from askable.keep.keys import KeyRows, PlaceMaps, is_deep, is_refused, is_single, list_of_keys
from askable.wish.examples import check_examples
from askable.wish.papers import is_askable, is_paper, paper


def _refused(examples):
    """The list of the languages that the bound refuses."""
    return [word for word in LANGUAGES if is_single(word) and is_refused(examples, word, examples.places)]


def _told_by(known, language):
    """What the languages that are known tell of one that the bound refuses: True, False, or None."""
    if any([known[other] and is_within(other, language) for other in known]):
        return True
    if any([not known[other] and is_within(language, other) for other in known]):
        return False
    return None


def _known(examples, refused):
    """The dict from the languages that the bound does not refuse to whether a query of them fits."""
    return {word: is_askable(examples, word) for word in LANGUAGES if word not in refused}


def ladder(examples):
    """The dict from the twelve languages to whether a query of them fits, or None where the bound hides it."""
    check_examples(examples)
    refused = _refused(examples)
    known = _known(examples, refused)
    return {word: _told_by(known, word) if word in refused else known[word] for word in sorted(LANGUAGES)}


def rung(examples, language):
    """What the ladder of the examples tells of one language."""
    refused = _refused(examples)
    if language not in refused:
        return is_askable(examples, language)
    return _told_by(_known(examples, refused), language)


def least_languages(examples):
    """The ascending tuple of the languages in which a query fits, but none of a language within."""
    told = ladder(examples)
    right = [word for word in told if told[word]]
    return tuple([word for word in right if not any([is_within(other, word) for other in right if other != word])])


def ladder_papers(examples):
    """A dict from the twelve languages to papers, or to None where no paper can be had behind the bound."""
    check_examples(examples)
    refused = _refused(examples)
    papers = {word: paper(examples, word) for word in LANGUAGES if word not in refused}
    for word in refused:
        papers[word] = _fitting_within(papers, word)
    return {word: papers[word] for word in sorted(LANGUAGES)}


def _fitting_within(papers, language):
    """One of some papers that is a fitting paper for a language within this one, or None."""
    for other, told in papers.items():
        if told is not None and told[0] == "query" and is_within(other, language):
            return _copied(told)
    return None


def is_ladder(examples, value):
    """Whether the value is a dict from the twelve languages to papers, and to None where no paper can be had."""
    check_examples(examples)
    if not isinstance(value, dict) or len(value) != len(LANGUAGES) or not all([word in value for word in LANGUAGES]):
        return False
    refused = _refused(examples)
    others = [word for word in LANGUAGES if word not in refused]
    if not all([is_paper(examples, word, value[word]) for word in others]):
        return False
    known = {word: value[word][0] == "query" for word in others}
    return all([_is_right_beyond(examples, known, word, value[word]) for word in refused])


def _is_right_beyond(examples, known, language, value):
    """Whether the value is what a ladder has for a language that the bound refuses."""
    return is_paper(examples, language, value) if _told_by(known, language) else value is None


def carried(examples, language, value, other):
    """A paper for another language by a paper for the first one."""
    check_examples(examples)
    check_language(language)
    if not is_paper(examples, language, value):
        raise InvalidOperation("not a paper of the examples for the language")
    check_language(other)
    if value[0] == "query" and is_within(language, other):
        return _copied(value)
    if value[0] == "keeper" and is_within(other, language):
        return _carried_keeper(examples, language, value, other)
    raise InvalidOperation("the paper tells nothing of the other language")


def _copied(value):
    """The same fitting paper, with dicts of its own."""
    # Who changes what is returned shall not change what was passed.
    told = [(index, {name: mapping[name] for name in sorted(mapping)}) for index, mapping in value[2]]
    return value[0], value[1], tuple(told), value[3]


def _carried_keeper(examples, language, value, other):
    """The keeper for a language within by a keeper."""
    _, places, target, mapping = value
    if is_single(other) and not is_single(language):
        check_keeper_bound(examples, other)
        more = examples.places
        at = more.index(places[0])
        return "keeper", more, target, {key: mapping[(key[at],)] for key in list_of_keys(examples, other, more)}
    # The keys of a keeper can be more than the bound allows, so they are not made anew.
    keys = sorted(mapping) if is_deep(other) else list_of_keys(examples, other, places)
    return "keeper", places, target, {key: mapping[key] for key in keys}


def clashes(examples, language):
    """The ascending tuple of all clashes of the examples in a language."""
    check_examples(examples)
    check_language(language)
    check_few_places(examples)
    check_keeper_bound(examples, language)
    rows = KeyRows(examples, language)
    indices = tuple(range(len(examples.places)))
    lots = lots_of(indices) if is_single(language) else [(at,) for at in indices]
    thrown = {lot: _barred_thrown(rows, lot) for lot in lots}
    return tuple(sorted([(*told, lot) for lot in lots for told in thrown[lot] if _is_new(thrown, told, lot)]))


def _barred_thrown(rows, lot):
    """The dict that has as keys the pairs (index of a case, barred row) to which maps from some places throw."""
    told = PlaceMaps(rows, tuple([rows.known_examples.places[at] for at in lot]))
    found = {}
    for target, (_, _, barred) in enumerate(rows.known_examples):
        for row in told.thrown_among(target, barred):
            found[(target, row)] = True
    return found


def _is_new(thrown, told, lot):
    """Whether no lot that lacks one of the places of a lot throws to a barred row."""
    return not any([told in thrown[part] for part in shorter_lots(lot) if part in thrown])
