"""Likes: rows of places that a turning leads to one another."""

from wholeturn.parts import first_places, free_signs
from wholeturn.places import place_tie
from wholeturn.ties import nought, tie_count, tie_less, tie_sum
from wholeturn.ways import stems_left
from wholeturn.wholes import product


def least_like(frame, places):
    """The least of all rows of places that are like this one."""
    # The turnings that lead the places so far to their least images are just the ways of these rows, so that the
    # next place's least image is the least one to which these ways lead it.
    rows = []
    for place in places:
        rows.append((place, least_image(frame, rows, place)))
    return tuple([image for place, image in rows])


def least_image(frame, rows, place):
    """The least place to which the ways of the rows, each with its least image, lead this place."""
    for row in rows:
        if row[0][0] == place[0]:
            return told_image(frame, rows, row, place)
    return free_image(frame, rows, place)


def free_image(frame, rows, place):
    """The least image of a place whose stem is free ahead."""
    sign = dict(free_signs(frame, first_places(rows)))[place[0]]
    stem = stems_left(frame, rows)[sign][0]
    says = [nought(frame.measure)] * frame.stem_count()
    # The ties to the rows' places are kept; of stems that are free, anything may be said.
    for one, image in rows:
        says[image[0]] = tie_sum(frame.measure, place_tie(frame, place, one), image[1][stem])
    return (stem, tuple(says))


def told_image(frame, rows, leading, place):
    """The least image of a place of the stem of this leading row's first place."""
    one, image = leading
    # Wherever a stem is led, what is said of it differs as it did from what the leading row's place says.
    more = [tie_less(frame.measure, said, other) for said, other in zip(place[1], one[1])]
    says = list(image[1])
    for stem, led in least_leads(frame, rows, more).items():
        says[led] = tie_sum(frame.measure, image[1][led], more[stem])
    return (image[0], tuple(says))


def least_leads(frame, rows, more):
    """Where each stem is led so that of what is said more of the free stems the least comes first."""
    leads = {one[0]: image[0] for one, image in rows}
    left = stems_left(frame, rows)
    # The leading rows' images say nought of all free stems, so that the order of what is said more is that of all.
    for stem, sign in sorted(free_signs(frame, first_places(rows)), key=lambda pair: more[pair[0]]):
        leads[stem] = left[sign].pop(0)
    return leads


def are_like(frame, places, others):
    """Whether a turning leads each of the places to that of the others."""
    return least_like(frame, places) == least_like(frame, others)


def pair_kinds(frame):
    """How many rows of two unlike places there are at the most of which none is like another one."""
    hues = {
        (one, other) for at, one in enumerate(frame.hues) for later, other in enumerate(frame.hues) if at != later
    }
    # Two places of unlike stems are told by their hues and their tie, of one stem by the differences of each hue.
    apart = len(hues) * tie_count(frame.measure)
    return apart + sum([stem_kinds(frame, hue) for hue in sorted(set(frame.hues))])


def stem_kinds(frame, hue):
    """How many kinds there are of two unlike places of one stem, a stem of this hue."""
    others = list(frame.hues)
    others.remove(hue)
    # Where all differences are nought, the places are alike.
    return product([choices(others.count(other), tie_count(frame.measure)) for other in sorted(set(others))]) - 1


def choices(many, kinds):
    """In how many ways so many things, each of one of the kinds, can be chosen, their order left aside."""
    ways = 1
    for step in range(1, many + 1):
        ways = ways * (kinds - 1 + step) // step
    return ways
