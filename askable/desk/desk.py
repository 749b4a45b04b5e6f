"""The desk: databases and wishes that are edited in groups, with steps back and on, watched pairs and trials."""

from askable.ask.languages import check_language
from askable.base.checks import is_below
from askable.base.databases import MAX_TABLES
from askable.base.tables import MAX_COLUMNS, is_name
from askable.desk.boards import Board
from askable.desk.moments import Moment
from askable.errors import InvalidEdit, InvalidNumber, InvalidOperation, NothingToUndo
from askable.wish.ladder import ladder
from askable.wish.papers import paper


def _is_shape(value):
    """Whether the value is a dict from at most four names to numbers of columns."""
    if not isinstance(value, dict) or len(value) > MAX_TABLES:
        return False
    return all([is_name(name) and is_below(value[name], MAX_COLUMNS + 1) for name in value])


def _check_steps(many, groups):
    """Raise an error if there are not so many groups."""
    if not isinstance(many, int) or isinstance(many, bool) or many < 0:
        raise InvalidNumber(many)
    if many > len(groups):
        raise NothingToUndo(many)


class Held:
    """A moment to which a desk goes back behind a block, with those of the blocks around it."""

    def __init__(self, moment, outer):
        self.moment = moment
        self.outer = outer


class Desk:
    """At most four databases of one shape, and wishes of their rows."""

    def __init__(self, shape):
        if not _is_shape(shape):
            raise InvalidOperation("not a dict from at most four names to numbers of columns")
        self._form = {name: shape[name] for name in sorted(shape)}
        self._now = Moment(Board(self._form, {}, {}), (), (), (), None)
        self._held = None

    @property
    def shape(self):
        """The dict from the names of the tables of each database to their numbers of columns."""
        return dict(self._form)

    @property
    def names(self):
        """The ascending tuple of the names of the databases."""
        return tuple(self._now.board.databases)

    @property
    def wishes(self):
        """The ascending tuple of the names of the wishes."""
        return tuple(self._now.board.told)

    @property
    def log(self):
        """The tuple of the groups in effect, each a tuple of edits."""
        return tuple([edits for edits, _ in self._now.done])

    @property
    def watched(self):
        """The ascending tuple of the watched pairs of a wish and a language."""
        return self._now.pairs

    def apply(self, *edits):
        """Do edits as one group, all or none, and return the number of groups in effect."""
        return self.apply_all(edits)

    def apply_all(self, edits):
        """Do the edits of a tuple as one group, all or none, and return the number of groups in effect."""
        if not isinstance(edits, tuple):
            raise InvalidEdit("the edits are not a tuple")
        if len(edits) > 0:
            self._now = self._now.with_group(edits)
        return len(self)

    def undo(self, *, many=1):
        """Take back the last groups, and return the number of groups in effect."""
        _check_steps(many, self._now.done)
        return self._go(len(self) - many)

    def redo(self, *, many=1):
        """Do again the groups that were taken back last, and return the number of groups in effect."""
        _check_steps(many, self._now.undone)
        return self._go(len(self) + many)

    def _go(self, step):
        if step != len(self):
            self._now = self._now.at_step(step)
        return len(self)

    def examples(self, wish):
        """The examples of a wish with a case for each database."""
        board = self._now.board
        board.wish_of(wish)
        if not board.databases:
            raise InvalidOperation("there is no database")
        return board.wished(wish)

    def ladder(self, wish):
        """The ladder of the examples of a wish."""
        return ladder(self.examples(wish))

    def paper(self, wish, language):
        """A paper of the examples of a wish for a language."""
        return paper(self.examples(wish), language)

    def watch(self, wish, language):
        """Watch a pair, and return its state."""
        self._now.board.wish_of(wish)
        check_language(language)
        pair = (wish, language)
        if pair not in self._now.pairs:
            self._now = self._now.watching(tuple(sorted(self._now.pairs + (pair,))))
        return self._now.board.state(wish, language)

    def unwatch(self, wish, language):
        """Watch a pair no more, and return its state."""
        left = (wish, language)
        if left not in self._now.pairs:
            raise InvalidOperation("the pair is not watched")
        self._now = self._now.watching(tuple([pair for pair in self._now.pairs if pair != left]))
        return self._now.board.state(wish, language)

    def news(self):
        """A generator of the watched pairs whose state the last call changed, with the old state and the new one."""
        now = self._now
        if now.before is not None:
            for wish, language in now.pairs:
                old = now.before.state(wish, language)
                new = now.board.state(wish, language)
                if old != new:
                    yield (wish, language), old, new

    def trial(self):
        """This desk, for a `with`: behind its block everything is as at its beginning."""
        return self

    def __enter__(self):
        self._held = Held(self._now, self._held)
        return self

    def __exit__(self, kind, value, trace):
        self._now = self._held.moment
        self._held = self._held.outer

    def during(self, call):
        """What a call with this desk returns, in such a block."""
        with self.trial() as one:
            return call(one)

    def twin(self):
        """An independent desk with the same databases, wishes, groups and watched pairs."""
        other = Desk(self._form)
        other._now = self._now.without_news()
        return other

    def __getitem__(self, name):
        return self._now.board.database_of(name)

    def __len__(self):
        return len(self._now.done)

    def __contains__(self, value):
        return isinstance(value, str) and value in self._now.board.databases

    def __iter__(self):
        raise TypeError("a desk is not iterated over")

    def __eq__(self, other):
        return isinstance(other, Desk) and self._now.board == other._now.board

    def __str__(self):
        return f"desk of {len(self._now.board.databases)} databases, {len(self._now.board.told)} wishes"
