"""Standings: how a web stands in the whole, a place for each stem, and which web a lot of places makes."""

from wholeturn.places import place_tie
from wholeturn.ties import nought


def standing(frame, web):
    """The lot in which the place of each stem says of each lesser stem the web's tie, of the others nought."""
    stems = frame.stem_count()
    return tuple([(stem, row + (nought(frame.measure),) * (stems - stem)) for stem, row in enumerate(web)])


def web_of(frame, lot):
    """The web whose ties are those of the lot's places."""
    return tuple([web_row(frame, lot, stem) for stem in range(frame.stem_count())])


def web_row(frame, lot, stem):
    """The ties from the stem's place to those of the lesser stems."""
    return tuple([place_tie(frame, lot[stem], lot[lesser]) for lesser in range(stem)])
