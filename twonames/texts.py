"""Rows, pairs, events and rings written as texts, and read back."""

from twonames.errors import NoEvents, NoRings, NoText
from twonames.readings import are_rings
from twonames.rows import is_event_of, is_pair, is_row, need_pair, need_row

# The places are the same in both, and each letter of all is in one of them.
ROWS_OF_ALL_LETTERS = ("abcdefghijklmnop", "klmnopqrstuvwxyz")
ALL_LETTERS = "abcdefghijklmnopqrstuvwxyz"
PLACES = ("0", "1", "2", "3", "4", "5", "6", "7", "8", "9", "10", "11", "12", "13", "14", "15")


def show_row(row):
    """The writing of a row."""
    need_row(row)
    return "".join(row)


def show_pair(pair):
    """The writing of a pair."""
    need_pair(pair)
    told, heard = pair
    return show_row(told) + "/" + show_row(heard)


def show_events(events):
    """The writing of a list of events."""
    if not are_events(events):
        raise NoEvents()
    return " ".join([word_of(event) for event in events])


def show_rings(wished):
    """The writing of a list of rings."""
    if not are_rings(ALL_LETTERS, wished):
        raise NoRings()
    if len(wished) == 0:
        return "()"
    return "".join(["(" + "".join(ring) + ")" for ring in wished])


def are_events(thing):
    """Whether a thing is a list of events, each of some rows of sixteen letters."""
    return type(thing) is list and all([is_event_of_sixteen(part) for part in thing])


def is_event_of_sixteen(thing):
    """Whether a thing is an event of some rows of sixteen letters."""
    return any([is_event_of(tuple(row), thing) for row in ROWS_OF_ALL_LETTERS])


def word_of(event):
    """The writing of one event."""
    kind = event[0]
    if kind == "name":
        return "=" + event[1]
    if kind == "lost":
        return "-" + PLACES[event[1]]
    if kind == "twice":
        return "+" + PLACES[event[1]]
    # Of "place" this is its one place, of "as" both.
    return "~".join([PLACES[place] for place in event[1:]])


def need_text(text):
    """Refuse what is no text at all."""
    if type(text) is not str:
        raise NoText()


def read_row(text):
    """The row that a text writes."""
    need_text(text)
    row = tuple(text)
    if not is_row(row):
        raise NoText()
    return row


def read_pair(text):
    """The pair that a text writes."""
    need_text(text)
    told, _, heard = text.partition("/")
    pair = (tuple(told), tuple(heard))
    if not is_pair(pair):
        raise NoText()
    return pair


def read_events(text):
    """The list of events that a text writes."""
    need_text(text)
    if text == "":
        return []
    events = [event_of(word) for word in text.split(" ")]
    if not are_events(events):
        raise NoText()
    return events


def event_of(word):
    """The event that a word writes; of a word that writes none a thing that is none."""
    sign, rest = word[:1], word[1:]
    if sign == "=":
        return "name", rest
    if sign == "-":
        return "lost", place_of(rest)
    if sign == "+":
        return "twice", place_of(rest)
    if "~" in word:
        told_at, _, heard_at = word.partition("~")
        return "as", place_of(told_at), place_of(heard_at)
    return "place", place_of(word)


def place_of(word):
    """The place that a word writes; None where it writes none."""
    return PLACES.index(word) if word in PLACES else None


def read_rings(text):
    """The list of rings that a text writes."""
    need_text(text)
    if text == "()":
        return []
    wished = [tuple(word) for word in text[1:-1].split(")(")]
    # Both ends go unread: whether they are brackets shows when all is written again.
    if not are_rings(ALL_LETTERS, wished) or show_rings(wished) != text:
        raise NoText()
    return wished
