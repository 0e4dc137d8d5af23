"""Halls: tokens that stand at places, are led and turned all together, and taken back."""

from wholeturn.errors import Full, Missing, NoBack, NoHue, NoName, NoPlace, NoRows, NoTimes, NoTurning, Taken
from wholeturn.frames import is_hue
from wholeturn.growing import grown, grown_place, grown_turning
from wholeturn.places import is_place
from wholeturn.times import turn_times
from wholeturn.turnings import is_turning, lead_place, put_behind, still_turning
from wholeturn.ways import least_way
from wholeturn.wholes import are_unlike, is_tuple_of, is_whole, is_within

LETTERS = "abcdefghijklmnopqrstuvwxyz"
MOST_LETTERS = 6


class Hall:
    """Tokens called by names, each at a place of its own.

    A deed never changes the dict of places, but puts another one there; so the past and copies can keep it as it is.
    """

    def __init__(self, frame, *, keep=True):
        self.frame = frame
        self.keep = keep
        self.places = {}
        self.whole = still_turning(frame)
        self.past = []

    def __len__(self):
        return len(self.places)

    def put(self, name, place):
        """A token so called stands there from now on; NoName, Taken, NoPlace or Full where it can't."""
        if not is_name(name):
            raise NoName(name)
        if name in self.places:
            raise Taken(name)
        if not is_place(self.frame, place):
            raise NoPlace(place)
        for other, full in self.places.items():
            if full == place:
                raise Full(other)
        self.become(self.frame, {**self.places, name: place}, self.whole)

    def lift(self, name):
        """The token is gone from now on; Missing where there is none."""
        self.refuse_missing(name)
        left = {other: place for other, place in self.places.items() if other != name}
        self.become(self.frame, left, self.whole)

    def lead(self, rows):
        """The least way that leads these tokens to these places, done to all; NoRows, Missing or NoWay."""
        way = least_way(self.frame, self.part_of_rows(rows))
        self.turn_all(way)
        return way

    def turn(self, turning, times=1):
        """The turning is done so many times to all tokens; NoTurning or NoTimes of what is none."""
        if not is_turning(self.frame, turning):
            raise NoTurning(turning)
        if not is_whole(times):
            raise NoTimes(times)
        self.turn_all(turn_times(self.frame, turning, times))

    def grow(self, hue):
        """The frame has a stem more of this hue from now on; NoHue or TooMany where it can't."""
        if not is_hue(hue):
            raise NoHue(hue)
        more = grown(self.frame, hue)
        places = {name: grown_place(self.frame, place) for name, place in self.places.items()}
        self.become(more, places, grown_turning(self.frame, self.whole))

    def where(self, name):
        """The token's place; Missing where there is none."""
        self.refuse_missing(name)
        return self.places[name]

    def names(self):
        """The rising tuple of all names."""
        return tuple(sorted(self.places))

    def frame_now(self):
        """The frame as it has grown so far."""
        return self.frame

    def whole_turning(self):
        """All that was led and turned so far, as one turning of the frame now."""
        return self.whole

    def back(self):
        """The last deed that isn't taken back is; NoBack where there is none."""
        if not self.past:
            raise NoBack()
        self.frame, self.places, self.whole = self.past.pop()

    def copy(self):
        """A hall alike, of its own, with the same to take back."""
        other = Hall(self.frame, keep=self.keep)
        other.places = self.places
        other.whole = self.whole
        other.past = list(self.past)
        return other

    def part_of_rows(self, rows):
        """The part that leads the tokens to the places told; NoRows of anything that is no rows, then Missing."""
        if not are_rows(self.frame, rows):
            raise NoRows(rows)
        return tuple(sorted([(self.where(name), place) for name, place in rows]))

    def refuse_missing(self, name):
        """Missing of anything that no token is called."""
        # Only a name is looked up: not everything can be a key.
        if not is_name(name) or name not in self.places:
            raise Missing(name)

    def turn_all(self, turning):
        """The turning is done to all tokens."""
        places = {name: lead_place(self.frame, turning, place) for name, place in self.places.items()}
        self.become(self.frame, places, put_behind(self.frame, self.whole, turning))

    def become(self, frame, places, whole):
        """All is so from now on; what was is kept to be taken back."""
        if self.keep:
            self.past.append((self.frame, self.places, self.whole))
        self.frame = frame
        self.places = places
        self.whole = whole


def is_name(thing):
    """Whether thing, which may be anything, is a name."""
    if not isinstance(thing, str) or not is_within(len(thing), 1, MOST_LETTERS):
        return False
    return all([letter in LETTERS for letter in thing])


def are_rows(frame, thing):
    """Whether thing, which may be anything, is a tuple of pairs of unlike names and unlike places."""
    if not isinstance(thing, tuple) or not all([is_name_row(frame, row) for row in thing]):
        return False
    return are_unlike([name for name, place in thing]) and are_unlike([place for name, place in thing])


def is_name_row(frame, thing):
    """Whether thing, which may be anything, is a pair of a name and a place of the frame."""
    return is_tuple_of(thing, 2) and is_name(thing[0]) and is_place(frame, thing[1])
