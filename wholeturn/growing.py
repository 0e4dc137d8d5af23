"""Growing: what becomes of frames, places, tables, parts and turnings when a stem more comes."""

from wholeturn.errors import TooMany
from wholeturn.frames import MOST_STEMS, Frame
from wholeturn.ties import nought


def grown(frame, hue):
    """The frame with a stem more of this hue; TooMany where these would be too many."""
    stems = frame.stem_count() + 1
    if stems > MOST_STEMS:
        raise TooMany(stems)
    return Frame(frame.measure, frame.hues + (hue,))


def grown_place(frame, place):
    """The place in a frame grown from this one; it says nought of the new stem."""
    stem, says = place
    return (stem, says + (nought(frame.measure),))


def grown_table(frame, table, ties=None):
    """The table with a row more of these ties, or of noughts."""
    if ties is None:
        return table + ((nought(frame.measure),) * frame.stem_count(),)
    return table + (ties,)


def grown_part(frame, part):
    """The part of the grown places."""
    return tuple([(grown_place(frame, one), grown_place(frame, other)) for one, other in part])


def grown_turning(frame, turning):
    """The turning that leads the new stem to itself and moves nothing there."""
    leads, moves = turning
    return (leads + (frame.stem_count(),), grown_table(frame, moves))
