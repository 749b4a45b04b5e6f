"""Tables that others give, spare tables and bases, and tables that are harmful for a secret."""

from askable.ask.languages import check_language
from askable.base.databases import check_database, sign_table
from askable.base.lots import greatest_lots, least_lots, lots_of, shorter_lots
from askable.base.tables import check_table
from askable.errors import InvalidOperation, UnknownName
from askable.keep.keys import is_deep, is_single
from askable.tell.least import can_have


def _check_names(database, names):
    """Raise an error if the names are not a tuple of names of tables of the database."""
    if not isinstance(names, tuple):
        raise InvalidOperation("the names are not a tuple")
    for name in names:
        _check_table_name(database, name)


def _check_table_name(database, name):
    if name not in database:
        raise UnknownName(name)


def _check_secret(database, secret):
    check_table(secret)
    if not all([value in database.domain for value in secret.domain]):
        raise InvalidOperation("a value of the secret is not one of the database")


def _check_giving(language):
    check_language(language)
    if is_deep(language) and is_single(language):
        raise InvalidOperation("a language with one rule that has hidden variables")


def _gives(database, names, name, language):
    """Whether some tables of a database give another one."""
    # A table gives itself, by the rule with its atom alone.
    if name in names:
        return True
    known = (database.only(*names),)
    if not can_have(known, (database[name],), language):
        return False
    return not language.endswith("not") or can_have(known, (sign_table(database, ("out", name)),), language)


def is_given(database, names, name, language):
    """Whether these tables of a database give another one."""
    check_database(database)
    _check_names(database, names)
    _check_table_name(database, name)
    _check_giving(language)
    return _gives(database, names, name, language)


def tables_given(database, names, language):
    """The ascending tuple of all tables that these tables of a database give."""
    check_database(database)
    _check_names(database, names)
    _check_giving(language)
    return tuple([name for name in database if _gives(database, names, name, language)])


def spare(database, language):
    """The ascending tuple of the tables that all others together give."""
    check_database(database)
    _check_giving(language)
    names = tuple(database)
    return tuple([
        name for name, others in zip(names, shorter_lots(names)) if _gives(database, others, name, language)
    ])


def bases(database, language):
    """The ascending tuple of all bases: tables that give all, but not if one of them is left out."""
    check_database(database)
    _check_giving(language)
    lots = lots_of(tuple(database))
    return least_lots([lot for lot in lots if all([_gives(database, lot, name, language) for name in database])])


def is_harmful(database, names, secret, language):
    """Whether a query of the language has just the secret in the database with these tables alone."""
    check_database(database)
    _check_names(database, names)
    _check_secret(database, secret)
    _check_giving(language)
    return _tells(database, names, secret, language)


def _tells(database, names, secret, language):
    return can_have((database.only(*names),), (secret,), language)


def _check_all(database, secret, language):
    check_database(database)
    _check_secret(database, secret)
    _check_giving(language)


def least_harmful(database, secret, language):
    """The ascending tuple of all tuples of harmful tables that are not harmful if one of them is left out."""
    _check_all(database, secret, language)
    lots = lots_of(tuple(database))
    return least_lots([lot for lot in lots if _tells(database, lot, secret, language)])


def greatest_harmless(database, secret, language):
    """The ascending tuple of all tuples of harmless tables that are not harmless if any other one comes."""
    _check_all(database, secret, language)
    lots = lots_of(tuple(database))
    return greatest_lots([lot for lot in lots if not _tells(database, lot, secret, language)])
