"""How few faults a wished misreading comes of."""

from twonames.readings import need_rings, rings, wrong
from twonames.rows import brought_to_front, go, need_row


def made_by(row, wished):
    """The fewest faults that make the wished rings, and events with so many."""
    need_row(row)
    need_rings(row, wished)
    turned = rings_to_turn(wished)
    pair = (row, row)
    events = []
    for ring in turned:
        more = turning(pair[0], ring)
        events.extend(more)
        pair = go(pair, more)[0]
    return len(turned), events


def rings_to_turn(wished):
    """At most two rings which, turned one behind the other, make the wished ones."""
    if len(wished) < 2:
        return list(wished)
    # The first fault makes one ring of all letters. In it the last letter of
    # each wished ring is read as the first one of the next ring; the second
    # fault gives each of them what the one of the ring ahead is read as.
    whole = tuple([letter for ring in wished for letter in ring])
    lasts = tuple([ring[-1] for ring in wished])
    return [whole, lasts[::-1]]


def turning(row, ring):
    """Places and one fault behind which each letter of a ring is read as the next one was."""
    return brought_to_front(row, ring) + [("lost", len(ring) - 1)]


def even(pair):
    """Whether the letters in rings, less rings, are an even number."""
    return (len(wrong(pair)) - len(rings(pair))) % 2 == 0
