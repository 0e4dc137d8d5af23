"""The one helper of the tests: things of any kind, values spoiled at any depth, frames gone through whole.

What is made or told here of places, turnings and parts goes by the document's words, without the program.
"""

import itertools
import random


def nested(kind, depth):
    thing = kind()
    for step in range(depth - 1):
        thing = kind([thing])
    return thing


def nested_dict(depth):
    thing = {}
    for step in range(depth - 1):
        thing = {"a": thing}
    return thing


HUGE = 10 ** 199 + 7

# None of these is a whole number.
NO_NUMBERS = [
    True, False, None, "", "0", "1", "2", "nought", (), (0,), (1, 2), ((0,),), [], [0], [1, 2], {}, {0: 0}, {"a": [1]},
    nested(tuple, 30), nested(list, 30), nested_dict(30),
]

# None of these is a tuple.
NO_TUPLES = [
    True, False, None, 0, 1, 2, -1, HUGE, -HUGE, "", "0", "ab", "(0,)", [], [0], [0, 1], [(0,), (0,)], [2], {}, {0: 0},
    {0: (0,), 1: (1,)}, nested(list, 30), nested_dict(30),
]

# Of each kind of thing some, none of which is a tie, a table, a place or a turning of any frame.
THINGS = NO_TUPLES + [
    (None,), (True,), (False,), ("a",), ("0",), ([],), ({},), ((),), (((),),), (-1,), (5,), (HUGE,), (True, True),
    ("0", "1"), (0, "1"), ([0], [1]), (0, []), (0, {}), (0, 0, 0, 0), nested(tuple, 30), (nested(tuple, 29),) * 2,
]


def spoiled(value):
    """The value with one part of it, at any depth, not as it should be: of another kind, more, fewer, beyond bounds."""
    if isinstance(value, tuple):
        yield from NO_TUPLES
        yield list(value)
        yield {at: part for at, part in enumerate(value)}
        yield value + (value[-1] if value else 0,)
        yield value + (None,)
        yield (value,)
        if value:
            yield value[:-1]
            yield value[1:] + (None,)
        for at, part in enumerate(value):
            for wrong in spoiled(part):
                yield value[:at] + (wrong,) + value[at + 1:]
    else:
        yield from NO_NUMBERS
        yield from (-1, 16, HUGE, -HUGE)
        if isinstance(value, int):
            yield value - HUGE


def every_tie(measure):
    return list(itertools.product(*[range(number) for number in measure]))


def every_table(frame):
    ties = every_tie(frame.measure)
    rows = [list(itertools.product(ties, repeat=stem)) for stem in range(len(frame.hues))]
    return list(itertools.product(*rows))


def every_place(frame):
    """All places, in any order."""
    ties = every_tie(frame.measure)
    zero = (0,) * len(frame.measure)
    places = []
    for stem in range(len(frame.hues)):
        for says in itertools.product(ties, repeat=len(frame.hues)):
            if says[stem] == zero:
                places.append((stem, says))
    return places


def every_turning(frame):
    """All turnings, in any order."""
    hues = frame.hues
    orders = itertools.permutations(range(len(hues)))
    leads = [order for order in orders if all(hues[x] == hues[y] for x, y in enumerate(order))]
    return list(itertools.product(leads, every_table(frame)))


def mixed_tie(frame, seed):
    """A tie that hangs on the seed, for tables and places of frames too large to be gone through."""
    return tuple(((seed + 1) * 40503 >> 5 * at + 4) % limit for at, limit in enumerate(frame.measure))


def mixed_table(frame, seed):
    rows = range(len(frame.hues))
    return tuple(tuple(mixed_tie(frame, seed + 7 * x * x + 5 * y) for y in range(x)) for x in rows)


def mixed_place(frame, stem, seed):
    said = [mixed_tie(frame, seed + 11 * x * x) for x in range(len(frame.hues))]
    said[stem] = (0,) * len(frame.measure)
    return (stem, tuple(said))


def mixed_leads(frame, seed):
    """Leads that hang on the seed."""
    leads = [0] * len(frame.hues)
    for hue in set(frame.hues):
        stems = [stem for stem, own in enumerate(frame.hues) if own == hue]
        for stem, led in zip(stems, random.Random(seed + 100 * hue).sample(stems, len(stems))):
            leads[stem] = led
    return tuple(leads)


def mixed_turning(frame, seed):
    return (mixed_leads(frame, seed), mixed_table(frame, seed))


def less(frame, one, other):
    return tuple((a - b) % limit for a, b, limit in zip(one, other, frame.measure))


def raw_tie(frame, one, other):
    if one[0] == other[0]:
        return None
    return less(frame, one[1][other[0]], other[1][one[0]])


def raw_led(frame, turning, place):
    (leads, moves), (stem, says) = turning, place
    others = {leads[stem]: (0,) * len(frame.measure)}
    for y, tie in enumerate(says):
        if y != stem:
            move = moves[max(stem, y)][min(stem, y)]
            others[leads[y]] = tuple((a + b) % limit for a, b, limit in zip(tie, move, frame.measure))
    return (leads[stem], tuple(others[y] for y in range(len(says))))


def raw_ring(frame, turning, place):
    """The places to which the turning leads the place, one by one, from the place itself until it is there again."""
    places = [place]
    while True:
        led = raw_led(frame, turning, places[-1])
        if led == place:
            return places
        places.append(led)


def raw_part(frame, turning, places):
    """The part of these places that the turning goes on from."""
    return tuple(sorted((place, raw_led(frame, turning, place)) for place in places))


def twenty_rows(frame):
    """A part of twenty rows, four of each of five stems, of a frame of sixteen stems, that goes on."""
    places = [mixed_place(frame, stem, 17 * seed + stem) for stem in (1, 4, 7, 8, 15) for seed in range(4)]
    return raw_part(frame, mixed_turning(frame, 5), places)


def raw_maps(frame):
    """Each turning, rising, with where it leads every place."""
    places = every_place(frame)
    turnings = sorted(every_turning(frame))
    return [(turning, {place: raw_led(frame, turning, place) for place in places}) for turning in turnings]


def raw_ways(maps, part):
    """Those of the turnings with their maps that go on from the part."""
    return [(turning, led) for turning, led in maps if all(led[one] == other for one, other in part)]


def every_part(frame, many):
    """All parts of so many rows."""
    places = sorted(every_place(frame))
    for ones in itertools.combinations(places, many):
        for others in itertools.permutations(places, many):
            yield tuple(zip(ones, others))


def turned_about(part):
    return tuple(sorted((other, one) for one, other in part))


def followers(part):
    """The row and its leading row, for each row that has one."""
    found = []
    for at, row in enumerate(part):
        ahead = [other for other in part[:at] if other[0][0] == row[0][0]]
        if ahead:
            found.append((row, ahead[0]))
    return found


def raw_signs(frame, part, side):
    """The signs of the free stems on this side, 0 ahead, 1 behind, rising by stems."""
    told = {row[side][0] for row in part}
    signs = []
    for stem, hue in enumerate(frame.hues):
        if stem not in told:
            differences = [less(frame, row[side][1][stem], lead[side][1][stem]) for row, lead in followers(part)]
            signs.append((hue, tuple(differences)))
    return signs


def raw_row_bars(frame, part):
    hues, stems, ties = [], [], []
    for i, (p, q) in enumerate(part):
        if frame.hues[p[0]] != frame.hues[q[0]]:
            hues.append(("hue", i))
        for j in range(i + 1, len(part)):
            v, w = part[j]
            if (p[0] == v[0] and q[0] != w[0]) or (p[0] != v[0] and q[0] == w[0]):
                stems.append(("stems", i, j))
            elif p[0] != v[0] and raw_tie(frame, p, v) != raw_tie(frame, q, w):
                ties.append(("tie", i, j))
    return hues + sorted(stems) + sorted(ties)


def raw_sign_counts(frame, part):
    ahead, behind = raw_signs(frame, part, 0), raw_signs(frame, part, 1)
    return tuple((sign, ahead.count(sign), behind.count(sign)) for sign in sorted({*ahead, *behind}))


def raw_bars(frame, part):
    """All bars of the part, the first one first."""
    bars = raw_row_bars(frame, part)
    if bars:
        return bars
    return [("count", *counts) for counts in raw_sign_counts(frame, part) if counts[1] != counts[2]]


def nearly(frame, chance, place, places):
    """A place that says something else, perhaps, of one other stem; or now and then any of the places."""
    stem, says = place
    at = chance.randrange(len(says))
    if at == stem:
        return chance.choice(places)
    tie = tuple(chance.randrange(limit) for limit in frame.measure)
    return (stem, says[:at] + (tie,) + says[at + 1:])


def sampled_parts(frame, many):
    """So many parts, the same each time, of which some go on and others nearly do; most have rows of one stem."""
    chance = random.Random(f"{frame.measure} {frame.hues}")
    places = sorted(every_place(frame))
    turnings = sorted(every_turning(frame))
    while many > 0:
        stems = chance.sample(range(len(frame.hues)), chance.randint(1, min(3, len(frame.hues))))
        near = [place for place in places if place[0] in stems]
        ones = chance.sample(near, chance.randint(0, min(6, len(near))))
        rows = list(raw_part(frame, chance.choice(turnings), ones))
        for step in range(chance.randint(0, 2) if rows else 0):
            at = chance.randrange(len(rows))
            rows[at] = (rows[at][0], nearly(frame, chance, rows[at][1], places))
        if len({other for one, other in rows}) == len(rows):
            many -= 1
            yield tuple(rows)


def place_grown(frame, place):
    """The place in the frame with a stem more."""
    return (place[0], place[1] + ((0,) * len(frame.measure),))


def turning_grown(frame, turning):
    """The turning in the frame with a stem more."""
    stems = len(frame.hues)
    return (turning[0] + (stems,), turning[1] + (((0,) * len(frame.measure),) * stems,))


def tie_text(tie):
    return ".".join(map(str, tie))


def place_text(place):
    return " ".join([str(place[0])] + ["-" if x == place[0] else tie_text(tie) for x, tie in enumerate(place[1])])


def table_text(table):
    return "\n".join(" ".join(map(tie_text, row)) for row in table if row)


def turning_text(turning):
    return "leads " + " ".join(map(str, turning[0])) + "\n" + table_text(turning[1])


def part_text(part):
    return "\n".join(place_text(one) + " > " + place_text(other) for one, other in part) or "-"


def frame_text(frame):
    return "measure " + " ".join(map(str, frame.measure)) + "\nhues " + " ".join(map(str, frame.hues))


def edited(text, signs=" \n\t0123-.>/ab"):
    """The text with one thing otherwise: a sign less, more or another, a row more, fewer, doubled, two changed."""
    for at in range(len(text) + 1):
        yield text[:at] + text[at + 1:]
        for sign in signs:
            yield text[:at] + sign + text[at:]
            yield text[:at] + sign + text[at + 1:]
    rows = text.split("\n")
    for at, row in enumerate(rows):
        yield "\n".join(rows[:at] + rows[at + 1:])
        yield "\n".join(rows[:at] + [row] + rows[at:])
        yield "\n".join(rows[:at] + rows[at + 1:] + [row])
        yield "\n".join(rows[:at] + [row.upper()] + rows[at + 1:])
        yield "\n".join(rows[:at] + [row.replace(" ", "  ")] + rows[at + 1:])
        yield "\n".join(rows[:at] + ["", row] + rows[at + 1:])
        yield "\n".join(rows[:at] + ["x"] * (at + 1))
    yield text + "\n" + text
    yield text.replace("\n", "\r\n")
    yield text.replace("\n", " ")
    yield text.replace("1", "01")
    yield text.replace("0", "00")
    yield text.replace("1", "\u0661")
    yield text.replace(" ", "\u00a0")
    yield text.replace("1", "1" * 6000)
