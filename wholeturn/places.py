"""Places: a stem, and what is said there of every stem; the whole is all of them."""

from wholeturn.errors import NoNumber
from wholeturn.ties import all_ties, are_ties, nought, tie_count, tie_less
from wholeturn.wholes import is_below, is_tuple_of, product


def is_place(frame, thing):
    """Whether thing, which may be anything, is a place of the frame."""
    if not is_tuple_of(thing, 2):
        return False
    stem, says = thing
    if not is_below(stem, frame.stem_count()) or not are_ties(frame.measure, says, frame.stem_count()):
        return False
    return says[stem] == nought(frame.measure)


def place_count(frame):
    """How many places the whole has."""
    # What a place says of its own stem is no choice.
    said = frame.stem_count() - 1
    return frame.stem_count() * product([tie_count(frame.measure)] * said)


def tie_number(measure, tie):
    """How many ties of the measure are less."""
    number = 0
    for part, limit in zip(tie, measure):
        number = number * limit + part
    return number


def place_number(frame, place):
    """How many places of the frame are less."""
    stem, says = place
    ties = tie_count(frame.measure)
    number = stem
    for other, tie in enumerate(says):
        if other != stem:
            number = number * ties + tie_number(frame.measure, tie)
    return number


def place_at(frame, number):
    """The place of that number among all of the frame; NoNumber of anything that is none's."""
    if not is_below(number, place_count(frame)):
        raise NoNumber(number)
    ties = all_ties(frame.measure)
    left = number
    said = []
    while len(said) < frame.stem_count() - 1:
        left, at = divmod(left, len(ties))
        said.append(ties[at])
    # The tie of the last stem comes out first, and the stem is what is left of the number.
    said.reverse()
    said.insert(left, nought(frame.measure))
    return (left, tuple(said))


def place_tie(frame, one, other):
    """The tie of two places; None where both are of one stem."""
    if one[0] == other[0]:
        return None
    return tie_less(frame.measure, one[1][other[0]], other[1][one[0]])
