"""Parts: rows that lead places to places, the bars that lie in the rows alone, and the signs of free stems."""

from wholeturn.errors import NoWay
from wholeturn.places import is_place, place_tie
from wholeturn.ties import tie_less
from wholeturn.wholes import are_matched, is_tuple_of


def is_part(frame, thing):
    """Whether thing, which may be anything, is a part of the frame."""
    if not isinstance(thing, tuple) or not all([is_row(frame, row) for row in thing]):
        return False
    return are_matched(thing)


def is_row(frame, thing):
    """Whether thing, which may be anything, is a pair of places of the frame."""
    return is_tuple_of(thing, 2) and all([is_place(frame, place) for place in thing])


def first_places(part):
    """The first places of all rows."""
    return [one for one, other in part]


def second_places(part):
    """The second places of all rows."""
    return [other for one, other in part]


def row_bars(frame, part):
    """All bars of the first three kinds, in the order in which the first one is sought."""
    return hue_bars(frame, part) + stems_bars(part) + tie_bars(frame, part)


def hue_bars(frame, part):
    """The bars of rows that lead from a stem to one of another hue."""
    return [("hue", at) for at, (one, other) in enumerate(part) if frame.hues[one[0]] != frame.hues[other[0]]]


def stems_bars(part):
    """The bars of two rows that are of one stem on one side alone."""
    first = [place[0] for place in first_places(part)]
    second = [place[0] for place in second_places(part)]
    return [
        ("stems", at, later) for at, later in row_pairs(part)
        if (first[at] == first[later]) != (second[at] == second[later])
    ]


def tie_bars(frame, part):
    """The bars of two rows of unlike stems on either side whose ties are unlike."""
    return [("tie", at, later) for at, later in row_pairs(part) if is_tie_bar(frame, part[at], part[later])]


def is_tie_bar(frame, row, later):
    """Whether both sides of the two rows have a tie, unlike ones."""
    first = place_tie(frame, row[0], later[0])
    second = place_tie(frame, row[1], later[1])
    return first is not None and second is not None and first != second


def row_pairs(part):
    """The numbers of each two rows, the lesser one first, rising."""
    return [(at, later) for at in range(len(part)) for later in range(at + 1, len(part))]


def leading_places(places):
    """The first one of the places for each stem of which there is one."""
    leading = {}
    for place in places:
        leading.setdefault(place[0], place)
    return leading


def free_signs(frame, places):
    """Each stem of which none of the places is, rising, with its sign by these places.

    Where no bar lies in the rows alone, the same rows are of one stem on either side, so that first and second places
    have the same leading rows.
    """
    told = leading_places(places)
    return [
        (stem, (hue, differences(frame, places, stem))) for stem, hue in enumerate(frame.hues) if stem not in told
    ]


def differences(frame, places, stem):
    """What each place that has a leading one says of the stem, less what the leading one does."""
    leading = leading_places(places)
    return tuple([
        tie_less(frame.measure, says[stem], leading[own][1][stem])
        for own, says in places if (own, says) != leading[own]
    ])


def counted_signs(frame, part):
    """The rising list of (sign, ahead, behind) for all signs of free stems, where no bar lies in the rows alone."""
    ahead = [sign for stem, sign in free_signs(frame, first_places(part))]
    behind = [sign for stem, sign in free_signs(frame, second_places(part))]
    return [(sign, ahead.count(sign), behind.count(sign)) for sign in sorted(set(ahead + behind))]


def sign_counts(frame, part):
    """For all signs of free stems how many have it ahead and behind; NoWay where a bar lies in the rows alone."""
    bars = row_bars(frame, part)
    if bars:
        raise NoWay(bars[0])
    return tuple(counted_signs(frame, part))
