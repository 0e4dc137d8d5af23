"""Places: a stem, and what is said there of every stem; the whole is all of them."""

from wholeturn.errors import NoNumber
from wholeturn.ties import all_ties, are_ties, nought, tie_count, tie_less
from wholeturn.wholes import digits_of, is_below, is_tuple_of, number_of, product


def is_place(frame, thing):
    """Whether thing, which may be anything, is a place of the frame."""
    if not is_tuple_of(thing, 2):
        return False
    stem, says = thing
    if not is_below(stem, frame.stem_count()) or not are_ties(frame.measure, says, frame.stem_count()):
        return False
    return says[stem] == nought(frame.measure)


def place_count(frame):
    """How many places the whole has."""
    return product(place_limits(frame))


def place_limits(frame):
    """How many choices there are of a place's stem and of each tie that it says."""
    # What a place says of its own stem is no choice.
    return [frame.stem_count()] + [tie_count(frame.measure)] * (frame.stem_count() - 1)


def place_number(frame, place):
    """How many places of the frame are less."""
    stem, says = place
    said = [number_of(tie, frame.measure) for other, tie in enumerate(says) if other != stem]
    return number_of([stem] + said, place_limits(frame))


def place_at(frame, number):
    """The place of that number among all of the frame; NoNumber of anything that is none's."""
    if not is_below(number, place_count(frame)):
        raise NoNumber(number)
    stem, *said = digits_of(number, place_limits(frame))
    ties = all_ties(frame.measure)
    says = [ties[at] for at in said]
    says.insert(stem, nought(frame.measure))
    return (stem, tuple(says))


def place_tie(frame, one, other):
    """The tie of two places; None where both are of one stem."""
    if one[0] == other[0]:
        return None
    return tie_less(frame.measure, one[1][other[0]], other[1][one[0]])
