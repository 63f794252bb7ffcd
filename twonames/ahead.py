"""The other rule: what is told goes one place ahead, and not to the front."""

from twonames.errors import NoEvents
from twonames.readings import need_rings
from twonames.rows import gone, need_events, need_pair, need_row


def ahead_go(pair, events):
    """The pair behind the events, the letters told and the letters written."""
    need_pair(pair)
    need_events(pair, events)
    if any([event[0] == "as" for event in events]):
        raise NoEvents()
    return gone(pair, events, one_ahead)


def one_ahead(row, place):
    """The row behind the taking of the letter at a place one place ahead."""
    if place == 0:
        return row
    return row[:place - 1] + (row[place], row[place - 1]) + row[place + 1:]


def ahead_made(row, wished):
    """The fewest faults that make the wished rings, and events with so many."""
    need_row(row)
    need_rings(row, wished)
    events = []
    faults = 0
    standing = row
    for ring in wished:
        # Each letter of a ring, one behind another, is given the reading of the
        # next one, and the next one has what the first was read as.
        for one, other in zip(ring[:-1], ring[1:]):
            more = exchanging(standing, one, other)
            events.extend(more)
            faults += 1
            standing = ahead_go((standing, standing), more)[0][0]
    return faults, events


def exchanging(row, one, other):
    """Places and one fault behind which two letters have exchanged their readings."""
    front, behind = sorted([row.index(one), row.index(other)])
    return [("place", place) for place in range(behind, front + 1, -1)] + [("lost", front + 1)]
