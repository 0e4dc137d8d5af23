"""The one helper of the package: whole numbers, tuples and pairs among anything, and counting."""


def is_whole(thing):
    """Whether thing is a whole number."""
    # To Python a truth is an int, too; here it is no number.
    return isinstance(thing, int) and not isinstance(thing, bool)


def is_within(thing, least, most):
    """Whether thing is a whole number from least to most."""
    return is_whole(thing) and least <= thing <= most


def is_below(thing, limit):
    """Whether thing is a whole number from 0 and below limit."""
    return is_within(thing, 0, limit - 1)


def is_tuple_of(thing, many):
    """Whether thing is a tuple of so many parts."""
    return isinstance(thing, tuple) and len(thing) == many


def product(numbers):
    """All the numbers multiplied, 1 of none."""
    result = 1
    for number in numbers:
        result *= number
    return result


def is_same(thing, value):
    """Whether thing, which may be anything, is just this value made of whole numbers, texts and tuples."""
    if isinstance(value, tuple):
        return is_tuple_of(thing, len(value)) and all([is_same(part, own) for part, own in zip(thing, value)])
    # To Python a truth equals a number, too; here it doesn't.
    return not isinstance(thing, bool) and thing == value


def are_unlike(things):
    """Whether none of the things, whole numbers, texts or tuples of these, stands there twice."""
    return len(set(things)) == len(things)


def are_matched(pairs):
    """Whether the pairs rise, no first thing stands there twice, and no second one does."""
    if list(pairs) != sorted(pairs):
        return False
    return are_unlike([one for one, other in pairs]) and are_unlike([other for one, other in pairs])


def number_of(digits, limits):
    """How many rows of digits, each from 0 and below its limit, are less than this one."""
    number = 0
    for digit, limit in zip(digits, limits):
        number = number * limit + digit
    return number


def digits_of(number, limits):
    """The row of digits below these limits that has this number."""
    digits = []
    left = number
    for limit in reversed(limits):
        left, digit = divmod(left, limit)
        digits.append(digit)
    # The last digit comes out first.
    digits.reverse()
    return digits


def like_counts(marks):
    """For each mark how many are like it from there on, itself with them.

    Multiplied, these come to the number of ways in which like marks can change their places.
    """
    return [marks[at:].count(mark) for at, mark in enumerate(marks)]


def common_divisor(one, other):
    """The greatest number that parts both numbers, which are from 1."""
    greater, lesser = one, other
    while lesser > 0:
        greater, lesser = lesser, greater % lesser
    return greater


def common_multiple(numbers):
    """The least number from 1 that all the numbers part, 1 of none."""
    multiple = 1
    for number in numbers:
        multiple *= number // common_divisor(multiple, number)
    return multiple
