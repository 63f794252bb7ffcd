"""What was told and what was written, explained by the fewest faults."""

from twonames.errors import NoPlaces
from twonames.rows import go, is_event_of, is_place, need_letters, need_row, places_of_letters, to_front


def explained(row, said, written):
    """The fewest faults, and a history with so many that tells the one and writes the other; None where none does."""
    need_texts(row, said, written)
    told_at = places_of_letters(row, said)
    heard_at = places_of_letters(row, written)
    table = fewest_faults(told_at, heard_at)
    if table[0][0] is None:
        return None
    return table[0][0], history(told_at, heard_at, table)


def need_texts(row, said, written):
    """Refuse what is no row, then what is no list of its letters, told or written."""
    need_row(row)
    need_letters(row, said)
    need_letters(row, written)


# Both rows hang on the beginnings alone: each letter, told or written, has gone
# to its row's front. So two letters are one event's by their places then.
def fewest_faults(told_at, heard_at):
    """For so many told and so many written, how few faults tell and write all the others; None where none do."""
    behind = [None] * len(heard_at) + [0]
    table = [behind]
    for place in reversed(told_at):
        behind = [fewest(ways(place, heard_at, done, behind)) for done in range(len(heard_at) + 1)]
        table.append(behind)
    return table[::-1]


def ways(place, heard_at, done, behind):
    """For each event that tells a place: the faults from it on, the event, and how many are written behind it."""
    found = []
    for event, more in events_at(place, heard_at, done):
        faults = behind[done + more]
        if faults is not None:
            found.append((faults if event[0] == "place" else faults + 1, event, done + more))
    return found


def events_at(place, heard_at, done):
    """The events that tell a place where so many letters are written, each with how many more it writes."""
    found = [(("lost", place), 0)]
    coming = heard_at[done:done + 2]
    if coming[:1] == [place]:
        found.append((("place", place), 1))
    elif len(coming) > 0:
        found.append((("as", place, coming[0]), 1))
    if coming == [place, place]:
        found.append((("twice", place), 2))
    return found


def fewest(found):
    """The fewest faults of all the ways; None where there is no way."""
    return min([faults for faults, _, _ in found], default=None)


def history(told_at, heard_at, table):
    """The events of a history with the fewest faults."""
    events = []
    done = 0
    for at, place in enumerate(told_at):
        _, event, done = min(ways(place, heard_at, done, table[at + 1]), key=lambda way: way[0])
        events.append(event)
    return events


def is_history(row, said, written, thing):
    """Whether a thing, whatever it may be, is a history without names that tells the one and writes the other."""
    need_texts(row, said, written)
    if type(thing) is not list or not all([is_nameless_event(row, part) for part in thing]):
        return False
    return go((row, row), thing)[1:] == (said, written)


def is_nameless_event(row, thing):
    """Whether a thing is an event of the row's letters, and no name."""
    return is_event_of(row, thing) and thing[0] != "name"


def places_of(row, said):
    """The places by which a teller with this row tells the letters."""
    need_row(row)
    need_letters(row, said)
    return places_of_letters(row, said)


def said_of(row, places):
    """The letters that a teller with this row tells by the places."""
    need_row(row)
    if type(places) is not list or not all([is_place(row, place) for place in places]):
        raise NoPlaces()
    said = []
    standing = row
    for place in places:
        said.append(standing[place])
        standing = to_front(standing, place)
    return said
