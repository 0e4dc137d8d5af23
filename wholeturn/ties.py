"""Measures, and the ties of a measure: tuples of rests by the measure's numbers."""

from wholeturn.wholes import is_below, is_tuple_of, is_within, product

MOST_NUMBERS = 3
LEAST_NUMBER = 2
MOST_NUMBER = 5
MOST_TIES = 30


def is_measure(thing):
    """Whether thing, which may be anything, is a measure."""
    if not isinstance(thing, tuple) or not is_within(len(thing), 1, MOST_NUMBERS):
        return False
    if not all([is_within(number, LEAST_NUMBER, MOST_NUMBER) for number in thing]):
        return False
    return product(thing) <= MOST_TIES


def is_tie(measure, thing):
    """Whether thing, which may be anything, is a tie of the measure."""
    if not is_tuple_of(thing, len(measure)):
        return False
    return all([is_below(number, limit) for number, limit in zip(thing, measure)])


def are_ties(measure, thing, many):
    """Whether thing, which may be anything, is a tuple of so many ties of the measure."""
    return is_tuple_of(thing, many) and all([is_tie(measure, part) for part in thing])


def tie_count(measure):
    """How many ties the measure has."""
    return product(measure)


def all_ties(measure):
    """The rising tuple of all ties of the measure."""
    ties = [()]
    for limit in measure:
        ties = [tie + (number,) for tie in ties for number in range(limit)]
    return tuple(ties)


def nought(measure):
    """The tie of noughts alone."""
    return (0,) * len(measure)


def tie_sum(measure, one, other):
    """Both ties together."""
    return tuple([(left + right) % limit for left, right, limit in zip(one, other, measure)])


def tie_less(measure, one, other):
    """The first tie less the second one."""
    return tuple([(left - right) % limit for left, right, limit in zip(one, other, measure)])


def tie_times(measure, tie, times):
    """The tie so many times, times any whole number."""
    return tuple([number * times % limit for number, limit in zip(tie, measure)])


def tie_order(measure, tie):
    """The least number of times from 1 by which the tie comes to nought."""
    times = 1
    while tie_times(measure, tie, times) != nought(measure):
        times += 1
    return times
