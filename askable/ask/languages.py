"""The twelve query languages."""

from askable.base.databases import check_database
from askable.errors import InvalidOperation

LANGUAGES = (
    "flat one plain",
    "flat one unlike",
    "flat one not",
    "flat many plain",
    "flat many unlike",
    "flat many not",
    "deep one plain",
    "deep one unlike",
    "deep one not",
    "deep many plain",
    "deep many unlike",
    "deep many not",
)

# The words at each position of a language, each of which allows what those ahead of it do.
_WORDS = (("flat", "deep"), ("one", "many"), ("plain", "unlike", "not"))


def is_language(value):
    """Whether the value is one of the twelve languages."""
    return value in LANGUAGES


def check_language(language):
    """Raise an error if the language is none."""
    if not is_language(language):
        raise InvalidOperation("not one of the twelve languages")


def _ranks(language):
    """The list of the positions of the words of a language among those that can stand there."""
    return [words.index(word) for words, word in zip(_WORDS, language.split(" "))]


def is_within(language, other):
    """Whether each word of the first language allows at most what that of the other one does."""
    check_language(language)
    check_language(other)
    return all([rank <= limit for rank, limit in zip(_ranks(language), _ranks(other))])


def joined(language, other):
    """The least language within which both are."""
    check_language(language)
    check_language(other)
    ranks = [max(rank, second) for rank, second in zip(_ranks(language), _ranks(other))]
    return " ".join([words[rank] for words, rank in zip(_WORDS, ranks)])


def signs_of(database, language):
    """The ascending tuple of the signs that the atoms of a language can have in a database."""
    check_database(database)
    check_language(language)
    signs = [("in", name) for name in database]
    if language.endswith("not"):
        signs = signs + [("out", name) for name in database]
    if not language.endswith("plain"):
        signs = signs + [("unlike",)]
    return tuple(signs)
