"""Likenesses: stems of one web that are tied to one another just as stems of another web are."""

from wholeturn.standings import standing
from wholeturn.tables import web_tie
from wholeturn.wholes import are_matched, is_below, is_tuple_of


def is_likeness(frame, web, other, thing):
    """Whether thing, which may be anything, is a likeness of the web with the other one."""
    if not isinstance(thing, tuple) or not all([is_stem_pair(frame, pair) for pair in thing]):
        return False
    return are_matched(thing) and keeps_hues(frame, thing) and keeps_ties(frame, web, other, thing)


def is_stem_pair(frame, thing):
    """Whether thing, which may be anything, is a pair of stems."""
    return is_tuple_of(thing, 2) and all([is_below(stem, frame.stem_count()) for stem in thing])


def keeps_hues(frame, pairs):
    """Whether the stems of each pair are of one hue."""
    return all([frame.hues[one] == frame.hues[like] for one, like in pairs])


def keeps_ties(frame, web, other, pairs):
    """Whether the web's tie between any two first stems is the other one's between their second stems."""
    return all([
        web_tie(frame, web, start, end) == web_tie(frame, other, like_start, like_end)
        for start, like_start in pairs for end, like_end in pairs if start != end
    ])


def part_of(frame, web, other, likeness):
    """The part of the places in the webs' standings; the pairs may be no likeness, if only they are matched."""
    ahead = standing(frame, web)
    behind = standing(frame, other)
    # A place begins with its stem, so the rows rise as the pairs do.
    return tuple([(ahead[one], behind[like]) for one, like in likeness])
