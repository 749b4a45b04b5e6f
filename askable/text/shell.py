"""The shell: a desk that is told by lines of words."""

from askable.ask.languages import is_language
from askable.base.tables import is_name
from askable.desk.desk import Desk
from askable.errors import InvalidCommand, InvalidOperation, NoQuery
from askable.text.formats import format_database, format_query, parse_database, row_of
from askable.wish.papers import query_for

_MAX_DIGITS = 40
_DIGITS = "0123456789"
# The kinds of the words behind the first one. Those of an edit are its parts, but for the text of `put`.
_EDITS = {
    "drop": ("name",), "row": ("name", "name", "row"), "unrow": ("name", "name", "row"), "value": ("name", "name"),
    "unvalue": ("name", "name"), "wish": ("name", "number"), "forget": ("name",), "must": ("name", "name", "row"),
    "bar": ("name", "name", "row"), "open": ("name", "name", "row"),
}
_OTHERS = {
    "undo": ("number",), "redo": ("number",), "names": (), "wishes": (), "show": ("name",), "ladder": ("name",),
    "ask": ("name", "language"),
}
_MARKS = {True: "yes", False: "no", None: "?"}


def _number_of(word):
    """The integer that a word tells without needless zeros, or None."""
    if not 1 <= len(word) <= _MAX_DIGITS or not all([letter in _DIGITS for letter in word]):
        return None
    return int(word) if word == "0" or not word.startswith("0") else None


def _part_of(kind, word):
    """What a word of some kind tells, or None."""
    if kind == "row":
        return row_of(word)
    if kind == "number":
        return _number_of(word)
    is_right = is_language(word) if kind == "language" else is_name(word)
    return word if is_right else None


def _words_of(line):
    """The list of the words of a line, with those of a language in one."""
    words = line.split(" ")
    return words[:2] + [" ".join(words[2:])] if words[0] == "ask" else words


def _command_of(line):
    """The tuple of the first word of a command and of what its other words tell, with the text of `put`."""
    if not isinstance(line, str):
        raise InvalidCommand("not a line")
    first, newline, text = line.partition("\n")
    words = _words_of(first)
    if words[0] == "put" and newline:
        return (words[0], *_parts_of(words, ("name",)), text)
    kinds = _EDITS.get(words[0], _OTHERS.get(words[0]))
    if kinds is None or newline:
        raise InvalidCommand("not a command")
    return (words[0], *_parts_of(words, kinds))


def _parts_of(words, kinds):
    """The list of what the words behind the first one tell, each of its kind."""
    if len(words) != len(kinds) + 1:
        raise InvalidCommand("a command has other words")
    parts = [_part_of(kind, word) for kind, word in zip(kinds, words[1:])]
    if None in parts:
        raise InvalidCommand("a word of a command is of another kind")
    return parts


class Shell:
    """A desk, and the commands that were done there by this shell."""

    def __init__(self, desk):
        if not isinstance(desk, Desk):
            raise InvalidOperation("not a desk")
        self._home = desk
        self._lines = []

    @property
    def desk(self):
        """The desk itself."""
        return self._home

    @property
    def log(self):
        """The tuple of the commands that raised no error."""
        return tuple(self._lines)

    def run(self, line):
        """Do a command, and return its answer."""
        answer = self._answer(_command_of(line))
        self._lines.append(line)
        return answer

    def run_all(self, lines):
        """A generator of the answers to the commands of a tuple, each done when its answer is asked for."""
        if not isinstance(lines, tuple):
            raise InvalidOperation("the lines are not a tuple")
        for line in lines:
            yield self.run(line)

    def _answer(self, command):
        word = command[0]
        if word == "put":
            self._home.apply(("put", command[1], parse_database(command[2])))
        elif word in _EDITS:
            self._home.apply(command)
        elif word == "undo":
            self._home.undo(many=command[1])
        elif word == "redo":
            self._home.redo(many=command[1])
        else:
            return self._told(command)
        return "ok"

    def _told(self, command):
        """The answer to a command that changes nothing."""
        word = command[0]
        if word == "names":
            return " ".join(self._home.names) or "-"
        if word == "wishes":
            return " ".join(self._home.wishes) or "-"
        if word == "show":
            return format_database(self._home[command[1]])
        if word == "ladder":
            return self._ladder_text(command[1])
        return self._query_text(command[1], command[2])

    def _ladder_text(self, wish):
        return "\n".join([f"{language} {_MARKS[told]}" for language, told in self._home.ladder(wish).items()])

    def _query_text(self, wish, language):
        wished = self._home.examples(wish)
        try:
            query = query_for(wished, language)
        except NoQuery:
            return "never"
        return format_query(query)

    def __len__(self):
        return len(self._lines)
