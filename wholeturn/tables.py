"""Tables: a tie for each two stems, kept in the row of the greater one at the lesser one."""

from wholeturn.ties import are_ties, nought, tie_less
from wholeturn.wholes import is_tuple_of


def is_table(frame, thing):
    """Whether thing, which may be anything, is a table of the frame."""
    if not is_tuple_of(thing, frame.stem_count()):
        return False
    return all([are_ties(frame.measure, row, stem) for stem, row in enumerate(thing)])


def even_table(frame):
    """The table of noughts."""
    return tuple([(nought(frame.measure),) * stem for stem in range(frame.stem_count())])


def table_tie(table, one, other):
    """The table's tie of two unlike stems, whichever is named first."""
    return table[max(one, other)][min(one, other)]


def web_tie(frame, web, one, other):
    """The tie from one stem to another, unlike one, of a table that is read with a direction."""
    tie = table_tie(web, one, other)
    if one > other:
        return tie
    return tie_less(frame.measure, nought(frame.measure), tie)
