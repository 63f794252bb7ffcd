"""Names with places between: two heal anything."""

from twonames.readings import reading, rings
from twonames.rows import brought_to_front, go, need_letter, need_pair

MOST_NAMES = 2


def names_needed(pair):
    """How few names, with places told between, make the rows alike."""
    return min(len(rings(pair)), MOST_NAMES)


def healing(pair):
    """Places and as few names as are needed, behind which all letters are read right."""
    found = rings(pair)
    if len(found) == 0:
        return []
    events = all_but_firsts_healed(pair[0], found)
    return events + healing(go(pair, events)[0])


def all_but_firsts_healed(row, found):
    """Places and one name behind which all letters are read right but the first ones of several rings."""
    letters = [letter for ring in found for letter in ring]
    # The first letter is read as the second one. They are brought to the two
    # ends of the others, which stand between from behind: so the second one's
    # name turns the readings of all these letters round, as a fault does. Then
    # each is read right but the first ones of the rings, and these are read as
    # one another, in one ring; the first one of one ring alone is right, too.
    order = letters[:1] + letters[:0:-1]
    return brought_to_front(row, order) + [("name", letters[1])]


def heals(pair, events):
    """Whether all letters are read right behind the events."""
    told, heard = go(pair, events)[0]
    return told == heard


def one_name(pair, letter):
    """The pair behind the name of a letter, and the letters that it makes read otherwise."""
    need_pair(pair)
    need_letter(pair[0], letter)
    behind = go(pair, [("name", letter)])[0]
    was = dict(reading(pair))
    return behind, [other for other, read in reading(behind) if read != was[other]]
