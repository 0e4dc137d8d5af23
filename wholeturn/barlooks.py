"""Looking at a bar that somebody shows."""

from wholeturn.bars import all_bars
from wholeturn.wholes import is_same


def shows_bar(frame, part, thing):
    """Whether thing, which may be anything, is a bar of the part."""
    return any([is_same(thing, bar) for bar in all_bars(frame, part)])
