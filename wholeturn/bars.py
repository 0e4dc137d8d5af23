"""Bars: the reasons why a part doesn't go on."""

from wholeturn.parts import counted_signs, row_bars


def all_bars(frame, part):
    """All bars of the part, in the order in which the first one is sought."""
    # Of a part that has a bar of another kind, nothing is a count bar.
    return row_bars(frame, part) or count_bars(frame, part)


def count_bars(frame, part):
    """The bars of signs that unlike numbers of free stems have, where no bar lies in the rows alone."""
    return [
        ("count", sign, ahead, behind) for sign, ahead, behind in counted_signs(frame, part) if ahead != behind
    ]


def first_bar(frame, part):
    """The first bar of the part; None where there is none."""
    bars = all_bars(frame, part)
    return bars[0] if bars else None


def goes_on(frame, part):
    """Whether some turning goes on from the part."""
    return first_bar(frame, part) is None
