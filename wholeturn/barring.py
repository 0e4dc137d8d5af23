"""The least rows of a part by which it doesn't go on."""

from wholeturn.bars import goes_on
from wholeturn.errors import TooMany

MOST_ROWS = 8


def barring(frame, part):
    """The least of the smallest parts made of the part's rows that don't go on; None where the part goes on."""
    if len(part) > MOST_ROWS:
        raise TooMany(len(part))
    for some in smaller_parts(part):
        if not goes_on(frame, some):
            return some
    return None


def smaller_parts(part):
    """All parts made of some of the rows, the part itself with them: those of fewer rows first, then rising."""
    picked = [()]
    found = [()]
    for size in range(len(part)):
        picked = [some + (row,) for some in picked for row in part if not some or some[-1] < row]
        found.extend(picked)
    return found
