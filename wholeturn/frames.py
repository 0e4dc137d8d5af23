"""Frames: a measure for the ties, and a hue for each stem."""

from wholeturn.errors import NoFrame
from wholeturn.ties import is_measure
from wholeturn.wholes import is_within

LEAST_STEMS = 2
MOST_STEMS = 16
MOST_HUE = 9


class Frame:
    """A measure and the hues of the stems."""

    def __init__(self, measure, hues):
        if not is_measure(measure):
            raise NoFrame("measure")
        if not are_hues(hues):
            raise NoFrame("hues")
        self.measure = measure
        self.hues = hues

    def __eq__(self, other):
        return isinstance(other, Frame) and self.measure == other.measure and self.hues == other.hues

    def stem_count(self):
        """How many stems there are."""
        return len(self.hues)


def are_hues(thing):
    """Whether thing, which may be anything, is the tuple of the hues of a frame's stems."""
    if not isinstance(thing, tuple) or not is_within(len(thing), LEAST_STEMS, MOST_STEMS):
        return False
    return all([is_hue(hue) for hue in thing])


def is_hue(thing):
    """Whether thing, which may be anything, is a hue."""
    return is_within(thing, 0, MOST_HUE)
