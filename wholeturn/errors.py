"""The refusals of the package, each straight under TurnError, with the value told.

The messages never show that value: what was handed in may be too large to be written out.
"""


class TurnError(ValueError):
    """Every refusal of the package is one of these."""


class NoFrame(TurnError):
    """What was handed in makes no frame; field names the first value that is wrong."""

    def __init__(self, field):
        super().__init__("this makes no frame")
        self.field = field


class NoNumber(TurnError):
    """Nothing has this number."""

    def __init__(self, number):
        super().__init__("nothing has this number")
        self.number = number


class NoWay(TurnError):
    """The part doesn't go on; bar is its first bar."""

    def __init__(self, bar):
        super().__init__("this part does not go on")
        self.bar = bar


class TooMany(TurnError):
    """There are, or there would be, more than there may be; many is how many."""

    def __init__(self, many):
        super().__init__("these are too many")
        self.many = many


class NoMeasure(TurnError):
    """This is no measure coarser than the frame's."""

    def __init__(self, thing):
        super().__init__("this is no coarser measure")
        self.thing = thing


class NoName(TurnError):
    """This is no name."""

    def __init__(self, name):
        super().__init__("this is no name")
        self.name = name


class Taken(TurnError):
    """A token is called so already."""

    def __init__(self, name):
        super().__init__("this name is taken")
        self.name = name


class NoPlace(TurnError):
    """This is no place of the frame."""

    def __init__(self, thing):
        super().__init__("this is no place of the frame")
        self.thing = thing


class Full(TurnError):
    """A token stands there already; name is what it is called."""

    def __init__(self, name):
        super().__init__("this place is full")
        self.name = name


class Missing(TurnError):
    """No token is called so."""

    def __init__(self, name):
        super().__init__("no token is called so")
        self.name = name


class NoRows(TurnError):
    """These are no rows of names and places."""

    def __init__(self, thing):
        super().__init__("these are no rows of names and places")
        self.thing = thing


class NoTurning(TurnError):
    """This is no turning of the frame."""

    def __init__(self, thing):
        super().__init__("this is no turning of the frame")
        self.thing = thing


class NoTimes(TurnError):
    """This is no number of times."""

    def __init__(self, times):
        super().__init__("this is no number of times")
        self.times = times


class NoHue(TurnError):
    """This is no hue."""

    def __init__(self, hue):
        super().__init__("this is no hue")
        self.hue = hue


class NoText(TurnError):
    """The text can't be read; row is the number of the row by which it can't."""

    def __init__(self, row):
        super().__init__("this row cannot be read")
        self.row = row


class NoLine(TurnError):
    """This is no line of the desk."""

    def __init__(self, line):
        super().__init__("this is no line of the desk")
        self.line = line


class NoBack(TurnError):
    """There is nothing to take back."""

    def __init__(self):
        super().__init__("there is nothing to take back")
