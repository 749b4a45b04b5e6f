"""Moments: all that a desk holds at one time."""

from askable.desk.edits import board_behind


class Moment:
    """The groups of a desk with the boards behind them, and what is watched. A moment never changes.

    A group is a pair: a tuple of edits, and the board behind them. The groups that are taken back
    stand in the order in which they would be done again.
    """

    def __init__(self, start, done, undone, pairs, before):
        self.start = start
        self.done = done
        self.undone = undone
        self.pairs = pairs
        # The board ahead of the last call that did, took back or did again a group, or None without such a call.
        self.before = before
        self.board = done[-1][1] if done else start

    def with_group(self, edits):
        """The moment behind one more group."""
        board = self.board
        for edit in edits:
            board = board_behind(board, edit)
        return Moment(self.start, self.done + ((edits, board),), (), self.pairs, self.board)

    def at_step(self, step):
        """The moment with so many of its groups in effect."""
        groups = self.done + self.undone
        return Moment(self.start, groups[:step], groups[step:], self.pairs, self.board)

    def watching(self, pairs):
        """The moment at which other pairs are watched."""
        return Moment(self.start, self.done, self.undone, pairs, self.before)

    def without_news(self):
        """The moment with the same groups, but without a last call."""
        return Moment(self.start, self.done, self.undone, self.pairs, None)
