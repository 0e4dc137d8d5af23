"""Coarsening: ties by their rests by a measure whose numbers part the frame's."""

from wholeturn.errors import NoMeasure
from wholeturn.frames import Frame
from wholeturn.ties import is_measure


def is_coarser(measure, thing):
    """Whether thing, which may be anything, is a measure coarser than this one."""
    if not is_measure(thing) or len(thing) != len(measure):
        return False
    return all([number % part == 0 for number, part in zip(measure, thing)])


def refuse_no_coarser(frame, measure):
    """NoMeasure of anything that is no measure coarser than the frame's."""
    if not is_coarser(frame.measure, measure):
        raise NoMeasure(measure)


def rests(measure, ties):
    """Each of the ties by its rests."""
    return tuple([tuple([number % limit for number, limit in zip(tie, measure)]) for tie in ties])


def coarser_frame(frame, measure):
    """The frame of the coarser measure; NoMeasure of anything that is none."""
    refuse_no_coarser(frame, measure)
    return Frame(measure, frame.hues)


def coarser_place(frame, measure, place):
    """The place with each tie by its rests; NoMeasure of anything that is no coarser measure."""
    refuse_no_coarser(frame, measure)
    stem, says = place
    return (stem, rests(measure, says))


def coarser_table(frame, measure, table):
    """The table with each tie by its rests; NoMeasure of anything that is no coarser measure."""
    refuse_no_coarser(frame, measure)
    return tuple([rests(measure, row) for row in table])


def coarser_turning(frame, measure, turning):
    """The turning with each move by its rests; NoMeasure of anything that is no coarser measure."""
    leads, moves = turning
    return (leads, coarser_table(frame, measure, moves))
