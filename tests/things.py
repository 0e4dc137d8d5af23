"""The one helper of the tests: things of any kind, values spoiled at any depth, frames gone through whole."""

import itertools


def nested(kind, depth):
    thing = kind()
    for step in range(depth - 1):
        thing = kind([thing])
    return thing


def nested_dict(depth):
    thing = {}
    for step in range(depth - 1):
        thing = {"a": thing}
    return thing


HUGE = 10 ** 199 + 7

# None of these is a whole number.
NO_NUMBERS = [
    True, False, None, "", "0", "1", "2", "nought", (), (0,), (1, 2), ((0,),), [], [0], [1, 2], {}, {0: 0}, {"a": [1]},
    nested(tuple, 30), nested(list, 30), nested_dict(30),
]

# None of these is a tuple.
NO_TUPLES = [
    True, False, None, 0, 1, 2, -1, HUGE, -HUGE, "", "0", "ab", "(0,)", [], [0], [0, 1], [(0,), (0,)], [2], {}, {0: 0},
    {0: (0,), 1: (1,)}, nested(list, 30), nested_dict(30),
]

# Of each kind of thing some, none of which is a tie, a table, a place or a turning of any frame.
THINGS = NO_TUPLES + [
    (None,), (True,), (False,), ("a",), ("0",), ([],), ({},), ((),), (((),),), (-1,), (5,), (HUGE,), (True, True),
    ("0", "1"), (0, "1"), ([0], [1]), (0, []), (0, {}), (0, 0, 0, 0), nested(tuple, 30), (nested(tuple, 29),) * 2,
]


def spoiled(value):
    """The value with one part of it, at any depth, not as it should be: of another kind, more, fewer, beyond bounds."""
    if isinstance(value, tuple):
        yield from NO_TUPLES
        yield list(value)
        yield {at: part for at, part in enumerate(value)}
        yield value + (value[-1] if value else 0,)
        yield value + (None,)
        yield (value,)
        if value:
            yield value[:-1]
            yield value[1:] + (None,)
        for at, part in enumerate(value):
            for wrong in spoiled(part):
                yield value[:at] + (wrong,) + value[at + 1:]
    else:
        yield from NO_NUMBERS
        yield from (-1, 16, HUGE, -HUGE, -HUGE + value)


def every_tie(measure):
    return list(itertools.product(*[range(number) for number in measure]))


def every_table(frame):
    ties = every_tie(frame.measure)
    rows = [list(itertools.product(ties, repeat=stem)) for stem in range(len(frame.hues))]
    return list(itertools.product(*rows))


def every_place(frame):
    """All places, made without the program, in any order."""
    ties = every_tie(frame.measure)
    zero = (0,) * len(frame.measure)
    places = []
    for stem in range(len(frame.hues)):
        for says in itertools.product(ties, repeat=len(frame.hues)):
            if says[stem] == zero:
                places.append((stem, says))
    return places


def every_turning(frame):
    """All turnings, made without the program."""
    hues = frame.hues
    orders = itertools.permutations(range(len(hues)))
    leads = [order for order in orders if all(hues[x] == hues[y] for x, y in enumerate(order))]
    return list(itertools.product(leads, every_table(frame)))


def mixed_tie(frame, seed):
    """A tie that hangs on the seed, for tables and places of frames too large to be gone through."""
    return tuple(seed * (at + 3) % limit for at, limit in enumerate(frame.measure))


def mixed_table(frame, seed):
    rows = range(len(frame.hues))
    return tuple(tuple(mixed_tie(frame, seed + 7 * x * x + 5 * y) for y in range(x)) for x in rows)


def mixed_place(frame, stem, seed):
    said = [mixed_tie(frame, seed + 11 * x * x) for x in range(len(frame.hues))]
    said[stem] = (0,) * len(frame.measure)
    return (stem, tuple(said))
