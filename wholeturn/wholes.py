"""The one helper of the package: whole numbers, and tuples of so many, among anything."""


def is_whole(thing):
    """Whether thing is a whole number."""
    # To Python a truth is an int, too; here it is no number.
    return isinstance(thing, int) and not isinstance(thing, bool)


def is_within(thing, least, most):
    """Whether thing is a whole number from least to most."""
    return is_whole(thing) and least <= thing <= most


def is_below(thing, limit):
    """Whether thing is a whole number from 0 and below limit."""
    return is_within(thing, 0, limit - 1)


def is_tuple_of(thing, many):
    """Whether thing is a tuple of so many parts."""
    return isinstance(thing, tuple) and len(thing) == many


def product(numbers):
    """All the numbers multiplied, 1 of none."""
    result = 1
    for number in numbers:
        result *= number
    return result
