"""What it costs to be heard right from now on."""

from itertools import combinations

from twonames.errors import TooMany
from twonames.rows import need_letters, need_pair, to_front

MOST_IN_ORDERS = 7


def needs(pair, text):
    """The numbers of the letters of a text that need a name to be heard right."""
    return [number for number, event in enumerate(telling(pair, text)) if event[0] == "name"]


# A place is heard right just where the letter stands there in both rows. Told
# so or by its name it goes to both fronts, so letters told already stand alike.
def telling(pair, text):
    """The events by which a text is heard right: names where they are needed, else places."""
    need_pair(pair)
    need_letters(pair[0], text)
    told, heard = pair
    events = []
    for letter in text:
        place = told.index(letter)
        heard_at = heard.index(letter)
        events.append(("place", place) if place == heard_at else ("name", letter))
        told = to_front(told, place)
        heard = to_front(heard, heard_at)
    return events


def orders(pair):
    """The fewest and the most names that tell each letter once, each with the least order that needs so many."""
    need_pair(pair)
    if len(pair[0]) > MOST_IN_ORDERS:
        raise TooMany(MOST_IN_ORDERS)
    least, first = least_order(pair, 1)
    most, last = least_order(pair, -1)
    return least, first, -most, last


# What is best of the letters behind a first one hangs on no more than which these
# are, whatever was told ahead of them: so few letters are gone through first.
def least_order(pair, price):
    """The least price of an order of all letters, where each name that is needed has this price, and the least such."""
    letters = list(pair[0])
    found = {(): (0, ())}
    for many in range(1, len(letters) + 1):
        for untold in combinations(letters, many):
            found[untold] = min([with_first(pair, untold, letter, price, found) for letter in untold])
    return found[pair[0]]


def with_first(pair, untold, letter, price, found):
    """The price and the order of the untold letters that begins with this one and goes on as was found best."""
    left = tuple([other for other in untold if other != letter])
    further, order = found[left]
    if ahead_of(pair[0], untold, letter) != ahead_of(pair[1], untold, letter):
        further = further + price
    return further, (letter,) + order


def ahead_of(row, untold, letter):
    """How many of the untold letters stand ahead of one in a row."""
    return len([other for other in row[:row.index(letter)] if other in untold])
