"""Showing: how frames, tables, places, turnings, parts and bars are written."""


def show_words(word, numbers):
    """The word, and the numbers behind it."""
    return " ".join([word] + [str(number) for number in numbers])


def show_tie(tie):
    """The tie's numbers with points between."""
    return ".".join([str(number) for number in tie])


def show_ties(ties):
    """The ties by blanks."""
    return " ".join([show_tie(tie) for tie in ties])


def show_frame(frame):
    """The frame's text: a row of the measure, a row of the hues."""
    return "\n".join([show_words("measure", frame.measure), show_words("hues", frame.hues)])


def show_table(table):
    """The table's text: a row for each stem but the first."""
    return "\n".join([show_ties(row) for row in table[1:]])


def show_place(place):
    """The place's text: its stem, and what it says of each stem."""
    stem, says = place
    words = [show_tie(tie) for tie in says]
    words[stem] = "-"
    return " ".join([str(stem)] + words)


def show_turning(turning):
    """The turning's text: a row of the leads, and the moves' rows."""
    leads, moves = turning
    return "\n".join([show_words("leads", leads), show_table(moves)])


def show_part(part):
    """The part's text: a row for each of its rows."""
    if not part:
        return "-"
    return "\n".join([show_place(one) + " > " + show_place(other) for one, other in part])


def show_bar(bar):
    """The bar's text."""
    kind, *told = bar
    if kind != "count":
        return show_words(kind, told)
    (hue, differences), ahead, behind = told
    return " ".join([show_words(kind, [ahead, behind, hue])] + [show_tie(tie) for tie in differences])
