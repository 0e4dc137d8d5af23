"""Reading: what texts write, of a frame.

A word that is not as it must be reads as what holds None, or is None, and so as nothing that belongs to a frame; an
empty word does, too, so that a blank too many needs no look of its own.
"""

from wholeturn.errors import NoText
from wholeturn.frames import Frame, are_hues
from wholeturn.parts import is_row
from wholeturn.places import is_place
from wholeturn.ties import are_ties, is_measure, nought
from wholeturn.turnings import are_leads
from wholeturn.wholes import are_matched, is_within

FIGURES = "0123456789"
# No number that is told by a text may have more; and Python itself reads no number of some thousands of figures.
MOST_FIGURES = 200


def read_number(word):
    """The whole number that the word writes; None where it writes none."""
    if not is_within(len(word), 1, MOST_FIGURES) or not all([sign in FIGURES for sign in word]):
        return None
    if word != "0" and word.startswith("0"):
        return None
    return int(word)


def read_tie(word):
    """The numbers that the word writes with points between."""
    return tuple([read_number(part) for part in word.split(".")])


def text_rows(text):
    """The rows of the text; NoText of what is no text."""
    if not isinstance(text, str):
        raise NoText(0)
    return text.split("\n")


def row_words(rows, at):
    """The words of the row of this number; NoText where there is no such row."""
    if at >= len(rows):
        raise NoText(at)
    return rows[at].split(" ")


def refuse_more(rows, many):
    """NoText of the first row beyond so many."""
    if len(rows) > many:
        raise NoText(many)


def read_numbers(rows, at, word):
    """The numbers behind this word in the row of this number; NoText where the row doesn't begin so."""
    first, *others = row_words(rows, at)
    if first != word:
        raise NoText(at)
    return tuple([read_number(other) for other in others])


def read_frame(text):
    """The frame that the text writes; NoText of anything that writes none."""
    rows = text_rows(text)
    measure = read_numbers(rows, 0, "measure")
    if not is_measure(measure):
        raise NoText(0)
    hues = read_numbers(rows, 1, "hues")
    if not are_hues(hues):
        raise NoText(1)
    refuse_more(rows, 2)
    return Frame(measure, hues)


def read_table(frame, text):
    """The table that the text writes; NoText of anything that writes none."""
    rows = text_rows(text)
    table = read_table_rows(frame, rows, 0)
    refuse_more(rows, frame.stem_count() - 1)
    return table


def read_table_rows(frame, rows, start):
    """The table that the rows from this one on write; NoText of the first one that can't be its row."""
    table = [()]
    for stem in range(1, frame.stem_count()):
        at = start + stem - 1
        ties = tuple([read_tie(word) for word in row_words(rows, at)])
        if not are_ties(frame.measure, ties, stem):
            raise NoText(at)
        table.append(ties)
    return tuple(table)


def read_place(frame, text):
    """The place that the text writes; NoText of anything that writes none."""
    rows = text_rows(text)
    place = row_place(frame, rows[0])
    if not is_place(frame, place):
        raise NoText(0)
    refuse_more(rows, 1)
    return place


def row_place(frame, row):
    """What the row writes as a place does: a stem, and what is said."""
    first, *others = row.split(" ")
    stem = read_number(first)
    return (stem, tuple([read_said(frame, word, at == stem) for at, word in enumerate(others)]))


def read_said(frame, word, own):
    """The tie that the word writes; of a place's own stem it writes nought by a sign of its own."""
    if own:
        return nought(frame.measure) if word == "-" else None
    return read_tie(word)


def read_turning(frame, text):
    """The turning that the text writes; NoText of anything that writes none."""
    rows = text_rows(text)
    leads = read_numbers(rows, 0, "leads")
    if not are_leads(frame, leads):
        raise NoText(0)
    moves = read_table_rows(frame, rows, 1)
    refuse_more(rows, frame.stem_count())
    return (leads, moves)


def read_part(frame, text):
    """The part that the text writes; NoText of anything that writes none."""
    rows = text_rows(text)
    if rows == ["-"]:
        return ()
    part = tuple([read_part_row(frame, rows, at) for at in range(len(rows))])
    for at in range(len(part)):
        if not are_matched(part[:at + 1]):
            raise NoText(at)
    return part


def read_part_row(frame, rows, at):
    """The pair of places that the row of this number writes; NoText where it writes none."""
    one, mark, other = rows[at].partition(" > ")
    row = (row_place(frame, one), row_place(frame, other))
    if not is_row(frame, row):
        raise NoText(at)
    return row
