"""Ways: the turnings that go on from a part, each by its number.

A way is chosen by digits: for each free stem ahead, rising, which one it is led to of the free stems behind of its
sign that are left; then for each two free stems, in the order of a table's rows, which tie moves them. As the digits
rise, so do the ways; all else is settled by the rows.
"""

from wholeturn.bars import first_bar, goes_on
from wholeturn.errors import NoNumber, NoWay
from wholeturn.parts import first_places, free_signs, leading_places, second_places
from wholeturn.ties import all_ties, tie_count, tie_less
from wholeturn.turnings import lead_place
from wholeturn.wholes import digits_of, is_below, like_counts, number_of, product


def refuse_barred(frame, part):
    """NoWay of a part that has a bar."""
    bar = first_bar(frame, part)
    if bar is not None:
        raise NoWay(bar)


def signs_ahead(frame, part):
    """The signs of the free stems ahead, rising by stems."""
    return [sign for stem, sign in free_signs(frame, first_places(part))]


def free_pairs(frame, part):
    """Each two free stems ahead, the greater one first, in the order of a table's rows."""
    free = [stem for stem, sign in free_signs(frame, first_places(part))]
    return [(stem, lesser) for stem in free for lesser in free if lesser < stem]


def way_limits(frame, part):
    """How many choices there are for each digit of a way of a part without a bar."""
    return like_counts(signs_ahead(frame, part)) + [tie_count(frame.measure)] * len(free_pairs(frame, part))


def stems_left(frame, part):
    """The free stems behind of each sign, rising."""
    left = {}
    for stem, sign in free_signs(frame, second_places(part)):
        left.setdefault(sign, []).append(stem)
    return left


def way_count(frame, part):
    """How many turnings go on from the part."""
    if not goes_on(frame, part):
        return 0
    return product(way_limits(frame, part))


def least_way(frame, part):
    """The least turning that goes on from the part; NoWay where none does."""
    return way_at(frame, part)


def way_at(frame, part, number=0):
    """The way of that number; NoWay where there is none, NoNumber of anything that is no way's number."""
    refuse_barred(frame, part)
    limits = way_limits(frame, part)
    if not is_below(number, product(limits)):
        raise NoNumber(number)
    digits = digits_of(number, limits)
    stems = len(signs_ahead(frame, part))
    leads = leads_by(frame, part, digits[:stems])
    return (leads, moves_by(frame, part, leads, digits[stems:]))


def leads_by(frame, part, digits):
    """The leads that these digits choose for the free stems."""
    leads = {one[0]: other[0] for one, other in part}
    left = stems_left(frame, part)
    for (stem, sign), digit in zip(free_signs(frame, first_places(part)), digits):
        leads[stem] = left[sign].pop(digit)
    return tuple([leads[stem] for stem in range(frame.stem_count())])


def moves_by(frame, part, leads, digits):
    """The moves that these digits choose for each two free stems, and that the rows settle for all others."""
    ties = all_ties(frame.measure)
    moves = {pair: ties[digit] for pair, digit in zip(free_pairs(frame, part), digits)}
    # Several rows may settle one move; without a bar they settle it alike.
    for (stem, says), (led, others) in part:
        for end, tie in enumerate(says):
            if end != stem:
                moves[max(stem, end), min(stem, end)] = tie_less(frame.measure, others[leads[end]], tie)
    return tuple([tuple([moves[stem, lesser] for lesser in range(stem)]) for stem in range(frame.stem_count())])


def way_number(frame, part, turning):
    """The turning's number among the ways of the part; None where it isn't one."""
    if not all([lead_place(frame, turning, one) == other for one, other in part]):
        return None
    leads, moves = turning
    moved = [number_of(moves[stem][lesser], frame.measure) for stem, lesser in free_pairs(frame, part)]
    return number_of(lead_digits(frame, part, leads) + moved, way_limits(frame, part))


def lead_digits(frame, part, leads):
    """The digits that choose these leads for the free stems."""
    left = stems_left(frame, part)
    digits = []
    for stem, sign in free_signs(frame, first_places(part)):
        digit = left[sign].index(leads[stem])
        left[sign].pop(digit)
        digits.append(digit)
    return digits


def image_count(frame, part, place):
    """To how many places the ways of the part lead this one; NoWay where there is none."""
    refuse_barred(frame, part)
    leading = leading_places(first_places(part))
    if place[0] in leading:
        return told_image_count(frame, part, place, leading[place[0]])
    free = dict(free_signs(frame, first_places(part)))
    # Led to any stem of its sign, it may say anything of the other free stems; the rows settle the rest.
    stems = signs_ahead(frame, part).count(free[place[0]])
    return stems * product([tie_count(frame.measure)] * (len(free) - 1))


def told_image_count(frame, part, place, leading):
    """To how many places the ways lead a place of the stem of this first place of a row."""
    # It says of free stems something more than the row's place does, and this goes wherever they are led.
    marks = [
        (sign, tie_less(frame.measure, place[1][stem], leading[1][stem]))
        for stem, sign in free_signs(frame, first_places(part))
    ]
    return product(like_counts(signs_ahead(frame, part))) // product(like_counts(marks))
