"""A desk: a hall to which one speaks in lines."""

from wholeturn.errors import NoLine
from wholeturn.frames import is_hue
from wholeturn.halls import Hall, is_name
from wholeturn.places import place_tie
from wholeturn.reading import read_frame, read_number, read_place
from wholeturn.rings import stays
from wholeturn.showing import show_place, show_tie, show_turning
from wholeturn.times import turning_order
from wholeturn.ways import way_count

DONE = "done"
NONE = "-"


def line_words(line):
    """The words of the line; none of anything that isn't just words by blanks."""
    if not isinstance(line, str) or "\n" in line:
        return []
    words = line.split(" ")
    return [] if "" in words else words


def read_times(word):
    """The number, perhaps below 0, that the word writes; None where it writes none."""
    if not word.startswith("-"):
        return read_number(word)
    number = read_number(word[1:])
    # Nought isn't below 0, so it is never written so.
    return -number if number else None


def row_pieces(words):
    """The words between the strokes."""
    pieces = [[]]
    for word in words:
        if word == "/":
            pieces.append([])
        else:
            pieces[-1].append(word)
    return pieces


def is_bare(words):
    """Whether no words are there."""
    return not words


def is_one_name(words):
    """Whether the words are one name."""
    return len(words) == 1 and is_name(words[0])


def are_two_names(words):
    """Whether the words are two names."""
    return len(words) == 2 and is_name(words[0]) and is_name(words[1])


def is_one_hue(words):
    """Whether the words are one hue."""
    return len(words) == 1 and is_hue(read_number(words[0]))


def are_times(words):
    """Whether the words are one number, perhaps below 0."""
    return len(words) == 1 and read_times(words[0]) is not None


def are_row_words(words):
    """Whether the words are rows of a name and whatever words for a place, strokes between."""
    return all([len(piece) > 1 and is_name(piece[0]) for piece in row_pieces(words)])


def is_one_row(words):
    """Whether the words are just one such row."""
    return "/" not in words and are_row_words(words)


FORMS = {
    "put": is_one_row, "lift": is_one_name, "grow": is_one_hue, "back": is_bare, "lead": are_row_words,
    "turn": are_times, "where": is_one_name, "names": is_bare, "tie": are_two_names, "whole": is_bare,
    "order": is_bare, "ways": are_row_words, "stays": is_bare,
}


def is_line(words):
    """Whether the words are a line by their form."""
    if not words or words[0] not in FORMS:
        return False
    form = FORMS[words[0]]
    return form(words[1:])


def read_rows(hall, words):
    """The rows of names and places that the words write; NoText where a place isn't written so."""
    frame = hall.frame_now()
    return tuple([(name, read_place(frame, " ".join(said))) for name, *said in row_pieces(words)])


def one_line(turning):
    """The turning's text on one line."""
    return show_turning(turning).replace("\n", " / ")


def answer_put(hall, words):
    """A token is put."""
    name, place = read_rows(hall, words)[0]
    hall.put(name, place)
    return DONE


def answer_lift(hall, words):
    """A token is lifted."""
    hall.lift(words[0])
    return DONE


def answer_grow(hall, words):
    """A stem more comes."""
    hall.grow(read_number(words[0]))
    return DONE


def answer_back(hall, words):
    """The last deed is taken back."""
    hall.back()
    return DONE


def answer_lead(hall, words):
    """Tokens are led; the turning by which is told."""
    return one_line(hall.lead(read_rows(hall, words)))


def answer_turn(hall, words):
    """The whole turning is done so many times more."""
    hall.turn(hall.whole_turning(), read_times(words[0]))
    return DONE


def answer_where(hall, words):
    """The place of a token."""
    return show_place(hall.where(words[0]))


def answer_names(hall, words):
    """All names."""
    return " ".join(hall.names()) or NONE


def answer_tie(hall, words):
    """The tie of two tokens' places."""
    one = hall.where(words[0])
    other = hall.where(words[1])
    tie = place_tie(hall.frame_now(), one, other)
    return NONE if tie is None else show_tie(tie)


def answer_whole(hall, words):
    """The whole turning."""
    return one_line(hall.whole_turning())


def answer_order(hall, words):
    """The order of the whole turning."""
    return str(turning_order(hall.frame_now(), hall.whole_turning()))


def answer_ways(hall, words):
    """In how many ways the tokens could be led so."""
    return str(way_count(hall.frame_now(), hall.part_of_rows(read_rows(hall, words))))


def answer_stays(hall, words):
    """How many places the whole turning leaves where they are."""
    return str(stays(hall.frame_now(), hall.whole_turning()))


ANSWERS = {
    "put": answer_put, "lift": answer_lift, "grow": answer_grow, "back": answer_back, "lead": answer_lead,
    "turn": answer_turn, "where": answer_where, "names": answer_names, "tie": answer_tie, "whole": answer_whole,
    "order": answer_order, "ways": answer_ways, "stays": answer_stays,
}


class Desk:
    """A hall of the frame that a text writes; NoText of anything that writes none."""

    def __init__(self, text):
        self.hall = Hall(read_frame(text))

    def say(self, line):
        """The answer to the line; NoLine of anything that is none, then what its answer is refused by."""
        words = line_words(line)
        if not is_line(words):
            raise NoLine(line)
        answer = ANSWERS[words[0]]
        return answer(self.hall, words[1:])
