"""Turnings: where each stem is led, and by what the ties that are said of it move."""

from wholeturn.tables import even_table, is_table, table_tie
from wholeturn.ties import nought, tie_count, tie_less, tie_sum
from wholeturn.wholes import is_below, is_tuple_of, like_counts, product


def is_turning(frame, thing):
    """Whether thing, which may be anything, is a turning of the frame."""
    if not is_tuple_of(thing, 2):
        return False
    leads, moves = thing
    return are_leads(frame, leads) and is_table(frame, moves)


def are_leads(frame, thing):
    """Whether thing, which may be anything, is a tuple of all stems, each at a stem of its hue."""
    stems = frame.stem_count()
    if not is_tuple_of(thing, stems) or not all([is_below(part, stems) for part in thing]):
        return False
    if sorted(thing) != list(range(stems)):
        return False
    return all([frame.hues[led] == hue for led, hue in zip(thing, frame.hues)])


def still_turning(frame):
    """The turning that leads each place to itself."""
    return (tuple(range(frame.stem_count())), even_table(frame))


def lead_place(frame, turning, place):
    """The place to which the turning leads this one."""
    leads, moves = turning
    stem, says = place
    others = [nought(frame.measure)] * frame.stem_count()
    for other, tie in enumerate(says):
        if other != stem:
            others[leads[other]] = tie_sum(frame.measure, tie, table_tie(moves, stem, other))
    return (leads[stem], tuple(others))


def put_behind(frame, first, second):
    """The turning that does as first and, behind it, as second."""
    leads = tuple([second[0][led] for led in first[0]])
    moves = tuple([moves_behind(frame, first, second, stem) for stem in range(frame.stem_count())])
    return (leads, moves)


def moves_behind(frame, first, second, stem):
    """The stem's row of the moves of second behind first."""
    leads, moves = first
    # second moves the ties between the stems to which first has led these.
    return tuple([
        tie_sum(frame.measure, moves[stem][lesser], table_tie(second[1], leads[stem], leads[lesser]))
        for lesser in range(stem)
    ])


def turned_back(frame, turning):
    """The turning that leads each place back from where this one leads it."""
    leads, moves = turning
    came = tuple([leads.index(stem) for stem in range(frame.stem_count())])
    back = tuple([moves_back(frame, moves, came, stem) for stem in range(frame.stem_count())])
    return (came, back)


def moves_back(frame, moves, came, stem):
    """The stem's row of the moves that undo these, each stem led back to where it came from."""
    zero = nought(frame.measure)
    return tuple([
        tie_less(frame.measure, zero, table_tie(moves, came[stem], came[lesser])) for lesser in range(stem)
    ])


def turning_count(frame):
    """How many turnings there are."""
    stems = frame.stem_count()
    orders = product(like_counts(frame.hues))
    pairs = stems * (stems - 1) // 2
    return orders * product([tie_count(frame.measure)] * pairs)
