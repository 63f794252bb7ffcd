"""Who is read as whom, and what faults change of it."""

from twonames.errors import NoEvents, NoRings
from twonames.rows import MOST_LETTERS, go, has_name, is_letter_of, need_events, need_pair, to_front


def reading(pair):
    """The tuples (letter, read) of the teller's letters, by letters."""
    need_pair(pair)
    told, heard = pair
    return sorted(zip(told, heard))


def wrong(pair):
    """The letters that are read as another one, rising."""
    return [letter for letter, read in reading(pair) if letter != read]


def rings(pair):
    """The rings of letters each of which is read as the next one."""
    return rings_of(dict(reading(pair)))


def rings_of(behind):
    """The rings of a dict that tells of each letter which one is next to it.

    Rings of one letter are left out; the others begin at their least letter.
    """
    found = [ring_from(behind, first) for first in sorted(behind)]
    return [ring for ring in found if len(ring) > 1 and ring[0] == min(ring)]


def ring_from(behind, first):
    """The ring of a letter, begun at it."""
    ring = [first]
    while behind[ring[-1]] != first:
        ring.append(behind[ring[-1]])
    return tuple(ring)


def is_ring(letters, thing):
    """Whether a thing is a tuple of two of these letters or more, the least first."""
    if type(thing) is not tuple or len(thing) < 2:
        return False
    return all([is_letter_of(letters, part) for part in thing]) and thing[0] == min(thing)


def are_rings(letters, thing):
    """Whether a thing is a list of rings of these letters such as rings tells."""
    if type(thing) is not list or not all([is_ring(letters, part) for part in thing]):
        return False
    within = [letter for ring in thing for letter in ring]
    if len(within) > MOST_LETTERS or len(set(within)) != len(within):
        return False
    return thing == sorted(thing)


def need_rings(row, wished):
    """Refuse what is no list of rings of the row's letters as rings tells them."""
    if not are_rings(row, wished):
        raise NoRings()


def need_nameless(pair, events):
    """Refuse what is no pair, then what is no list of its events but names."""
    need_pair(pair)
    need_events(pair, events)
    if has_name(events):
        raise NoEvents()


def fault_rings(pair, events):
    """The ring that each fault changes, in the order of the faults."""
    need_nameless(pair, events)
    row = pair[0]
    found = []
    for event in events:
        if event[0] != "place":
            found.append(from_least(letters_of_fault(row, event)))
        row = to_front(row, event[1])
    return found


def letters_of_fault(row, event):
    """The letters, each of which is read behind a fault as the next one was."""
    word, place = event[0], event[1]
    if word == "lost":
        return row[:place + 1]
    if word == "twice":
        return row[place::-1]
    heard_at = event[2]
    if heard_at < place:
        return row[heard_at:place + 1]
    return row[place:heard_at + 1][::-1]


def from_least(ring):
    """The ring begun at its least letter; of one letter the empty one."""
    if len(ring) == 1:
        return ()
    at = ring.index(min(ring))
    return ring[at:] + ring[:at]


def left(pair, events):
    """The rings of letters each of which is read behind as the next one was."""
    need_nameless(pair, events)
    read_from = {read: letter for letter, read in reading(pair)}
    later = go(pair, events)[0]
    return rings_of({letter: read_from[read] for letter, read in reading(later)})


def leaves_none(pair, events):
    """Whether the events, none of them a name, change no reading."""
    return left(pair, events) == []
