"""Rings: the places to which a turning, done any number of times, leads a place."""

from wholeturn.tables import table_tie
from wholeturn.ties import nought, tie_count, tie_sum
from wholeturn.times import stem_ring, turn_times, turning_order
from wholeturn.turnings import lead_place


def least_on_ring(frame, turning, place):
    """The least place of the place's ring."""
    least = place
    here = lead_place(frame, turning, place)
    while here != place:
        least = min(least, here)
        here = lead_place(frame, turning, here)
    return least


def stays(frame, turning, times=1):
    """How many places are where they were behind the turning so many times; times is any whole number."""
    done = turn_times(frame, turning, times)
    return sum([stem_stays(frame, done, stem) for stem, led in enumerate(done[0]) if led == stem])


def stem_stays(frame, turning, stem):
    """How many places of a stem that is led to itself are led to themselves."""
    leads, moves = turning
    choices = 1
    for other in range(frame.stem_count()):
        ring = stem_ring(leads, other)
        if other != stem and other == min(ring):
            # What is said of one stem of the ring settles what is said of all, if it comes round as it was.
            choices *= tie_count(frame.measure) if is_even(frame, moves, stem, ring) else 0
    return choices


def is_even(frame, moves, stem, ring):
    """Whether the moves between the stem and all stems of the ring come to nought together."""
    total = nought(frame.measure)
    for other in ring:
        total = tie_sum(frame.measure, total, table_tie(moves, stem, other))
    return total == nought(frame.measure)


def ring_counts(frame, turning):
    """The rising tuple of (length, how many rings) for all lengths of rings."""
    many = {}
    for length in divisors(turning_order(frame, turning)):
        # Those that stay behind so many times are on rings of this length and of all that part it.
        shorter = sum([many[other] for other in many if length % other == 0])
        many[length] = stays(frame, turning, length) - shorter
    return tuple([(length, many[length] // length) for length in many if many[length] > 0])


def divisors(number):
    """The numbers from 1 that part this one, rising."""
    return [part for part in range(1, number + 1) if number % part == 0]
