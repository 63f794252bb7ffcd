"""The same events told over and over."""

from math import lcm

from twonames.errors import NoNumber, TooMany
from twonames.readings import ring_from
from twonames.rows import gone, has_name, need_events, need_pair, to_front

MOST_ROUNDS = 1000


def rounds(pair, events, many):
    """The pair behind so many rounds of the events."""
    need_pair(pair)
    need_events(pair, events)
    if type(many) is not int or many < 0:
        raise NoNumber()
    if not has_name(events):
        told_turn, heard_turn = turns_of(pair, events)
        return turned(pair[0], told_turn, many), turned(pair[1], heard_turn, many)
    if many > MOST_ROUNDS:
        first, length = period(pair, events)
        many = first + (many - first) % length
    for _ in range(many):
        pair = behind_round(pair, events)
    return pair


def period(pair, events):
    """Behind how many rounds, at least, a pair comes again, and after how many more it does."""
    need_pair(pair)
    need_events(pair, events)
    if not has_name(events):
        return 0, length_of(turns_of(pair, events))
    met = {}
    while pair not in met:
        if len(met) == MOST_ROUNDS:
            raise TooMany(MOST_ROUNDS)
        met[pair] = len(met)
        pair = behind_round(pair, events)
    return met[pair], len(met) - met[pair]


def right_again(pair, events):
    """Behind how many rounds, at least, all letters are read right; None where never."""
    need_pair(pair)
    need_events(pair, events)
    if not has_name(events):
        return right_by_turns(pair, turns_of(pair, events))
    met = {}
    while pair[0] != pair[1]:
        if pair in met:
            return None
        if len(met) == MOST_ROUNDS:
            raise TooMany(MOST_ROUNDS)
        met[pair] = True
        pair = behind_round(pair, events)
    return len(met)


def behind_round(pair, events):
    """The pair behind one round."""
    return gone(pair, events, to_front)[0]


def turns_of(pair, events):
    """Of each row, for each place, the place from which a round without names brings its letter."""
    # What such a round does hangs on no letters, so the places may stand for them.
    places = tuple(range(len(pair[0])))
    return behind_round((places, places), events)


def turned(row, turn, many):
    """The row behind so many turns."""
    return tuple([standing_after(letters_at(row, turn, place), many) for place in range(len(row))])


def letters_at(row, turn, place):
    """The letters that stand at a place one turn behind another, from no turn on, until they come again."""
    return [row[source] for source in ring_from(turn, place)]


def standing_after(letters, many):
    """Which of the letters that stand at a place over and over stands there behind so many turns."""
    return letters[many % len(letters)]


def length_of(turns):
    """Behind how many rounds all places are as they were."""
    length = 1
    for turn in turns:
        for place in range(len(turn)):
            length = lcm(length, len(ring_from(turn, place)))
    return length


def right_by_turns(pair, turns):
    """The least number of rounds behind which the rows are alike; None where there is none."""
    numbers = [0]
    length = 1
    for places in linked_places(turns):
        for place in places:
            told = letters_at(pair[0], turns[0], place)
            heard = letters_at(pair[1], turns[1], place)
            longer = lcm(length, len(told), len(heard))
            spread = [number + more for number in numbers for more in range(0, longer, length)]
            numbers = [number for number in spread if standing_after(told, number) == standing_after(heard, number)]
            length = longer
        if len(numbers) == 0:
            return None
        # Where two numbers of rounds make these places alike, so many as they
        # differ by bring each place's letter from one and the same place in
        # both rows. So all such numbers stand evenly, and the least one with
        # the distance between two tells them all.
        length = length // len(numbers)
        numbers = [min(numbers)]
    return numbers[0]


# In this order, when a place is reached, what is known of the number of rounds
# fixes already which letter stands there in one of the rows: so there are never
# more numbers to keep than there are letters, however long the rounds are.
def linked_places(turns):
    """The places in parts that no turn leaves, each place but a part's first brought from or to one ahead of it."""
    parts = []
    for place in range(len(turns[0])):
        if not any([place in part for part in parts]):
            parts.append(part_from(turns, place))
    return parts


def part_from(turns, first):
    """The places that the turns bring to one another, from a first one on."""
    part = [first]
    at = 0
    while at < len(part):
        for turn in turns:
            if turn[part[at]] not in part:
                part.append(turn[part[at]])
        at += 1
    return part
