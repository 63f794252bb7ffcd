"""One ring, healed by one name behind the fewest places."""

from twonames.errors import NotOne
from twonames.readings import rings
from twonames.rows import brought_to_front


def fewest_places(pair):
    """The fewest places told ahead of one name behind which all letters are read right."""
    return len(shortest_healing(pair)) - 1


def shortest_healing(pair):
    """The fewest places and one name behind which all letters are read right."""
    found = rings(pair)
    if len(found) != 1:
        raise NotOne()
    row = pair[0]
    front, name = min(ways_of(row, found[0]), key=lambda way: len(way[0]))
    return brought_to_front(row, front) + [("name", name)]


def ways_of(row, ring):
    """Tuples of letters to bring to the front, and the name that heals the ring then."""
    # However the ring is begun, its first letter's name heals where it stands
    # so, and also where it stands just so from behind: there it is the last.
    ways = [(ring, ring[0])]
    for at in range(len(ring)):
        order = ring[at:] + ring[:at]
        ways.append((front_for(row, order), order[0]))
        ways.append((front_for(row, order[::-1]), order[0]))
    return ways


def front_for(row, order):
    """The fewest letters to bring to the front, as they are to stand there, for a ring in this order.

    Behind that its letters stand next to one another; the last one is not brought.
    """
    many = brought_of(row, order)
    # Where letters of the ring are brought, no stranger may stay ahead of those
    # that are not; where none is, only strangers between them are in the way.
    begin = row.index(order[0]) if many == 0 else 0
    strangers = [letter for letter in row[begin:row.index(order[-1])] if letter not in order]
    return tuple(strangers) + order[:many]


def brought_of(row, order):
    """How many letters of a ring are to be brought, so that the others stand in this order."""
    many = len(order) - 1
    while many > 0 and row.index(order[many - 1]) < row.index(order[many]):
        many -= 1
    return many
