"""Lots: tuples of some of several parts, in one order."""

from askable.base.checks import rows_of


def lots_of(parts):
    """The list of all tuples of some of the parts, in their order, shorter ones first."""
    chosen = rows_of([(False, True)] * len(parts))
    told = [tuple([part for part, is_in in zip(parts, row) if is_in]) for row in chosen]
    return [lot for size in range(len(parts) + 1) for lot in told if len(lot) == size]


def shorter_lots(lot):
    """The list of the lots that lack one of the parts of a lot."""
    return [lot[:at] + lot[at + 1:] for at in range(len(lot))]


def least_lots(lots):
    """The ascending tuple of those of some lots that are not there without one of their parts."""
    known = {lot: True for lot in lots}
    return tuple(sorted([lot for lot in lots if not any([part in known for part in shorter_lots(lot)])]))


def greatest_lots(lots):
    """The ascending tuple of those of some lots that are not there with one more part."""
    within = {part: True for lot in lots for part in shorter_lots(lot)}
    return tuple(sorted([lot for lot in lots if lot not in within]))
