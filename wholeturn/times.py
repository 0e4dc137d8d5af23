"""Turnings done any number of times."""

from wholeturn.ties import tie_order
from wholeturn.turnings import lead_place, put_behind, still_turning
from wholeturn.wholes import common_multiple


def turn_times(frame, turning, times):
    """The turning that does as this one so many times; times is any whole number."""
    # By the order's rest, no number is below 0 and none is large.
    return doubled_times(frame, turning, times % turning_order(frame, turning))


def doubled_times(frame, turning, times):
    """The turning so many times, from 0, by doubling."""
    done = still_turning(frame)
    doubled = turning
    left = times
    while left > 0:
        if left % 2 == 1:
            done = put_behind(frame, done, doubled)
        doubled = put_behind(frame, doubled, doubled)
        left //= 2
    return done


def turning_order(frame, turning):
    """The least number of times from 1 by which each place is led to itself."""
    turns = common_multiple([len(stem_ring(turning[0], stem)) for stem in turning[0]])
    leads, moves = doubled_times(frame, turning, turns)
    # All stems are back now, so that from here on the moves just add up.
    return turns * common_multiple([tie_order(frame.measure, tie) for row in moves for tie in row])


def stem_ring(leads, stem):
    """The stems to which the leads lead this one, from itself on until they are back at it."""
    ring = [stem]
    while leads[ring[-1]] != stem:
        ring.append(leads[ring[-1]])
    return ring


def times_to(frame, turning, one, other):
    """The least number of times from 0 that leads the place one to the place other; None where none does."""
    here = one
    times = 0
    while here != other:
        here = lead_place(frame, turning, here)
        times += 1
        if here == one:
            return None
    return times
