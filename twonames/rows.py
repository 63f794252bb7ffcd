"""Letters, rows, pairs and events, and what events do with a pair."""

from twonames.errors import NoEvents, NoLetter, NoPair, NoRow

MOST_LETTERS = 16
WORDS_WITH_ONE_PLACE = ("place", "lost", "twice")


# The kinds are compared outright, here and below: a thing of a kind derived
# from these may fail in any way when it is measured or compared, and nothing
# may be raised whatever is asked about.
def is_letter(thing):
    """Whether a thing is a text of one sign from a to z."""
    return type(thing) is str and len(thing) == 1 and "a" <= thing <= "z"


def is_row(thing):
    """Whether a thing is a tuple of one to sixteen unlike letters."""
    if type(thing) is not tuple or not 1 <= len(thing) <= MOST_LETTERS:
        return False
    return are_unlike_letters(thing)


def are_unlike_letters(parts):
    """Whether all parts are letters, no two of them alike."""
    return all([is_letter(part) for part in parts]) and len(set(parts)) == len(parts)


def is_pair(thing):
    """Whether a thing is a tuple of two rows of the same letters."""
    if type(thing) is not tuple or len(thing) != 2:
        return False
    told, heard = thing
    return is_row(told) and is_row(heard) and sorted(told) == sorted(heard)


def is_letter_of(row, thing):
    """Whether a thing is a letter of the row."""
    return is_letter(thing) and thing in row


def is_place(row, thing):
    """Whether a thing is a place of the row; True and False are none."""
    return type(thing) is int and 0 <= thing < len(row)


def is_event(pair, thing):
    """Whether a thing, whatever it may be, is an event of the pair."""
    need_pair(pair)
    return is_event_of(pair[0], thing)


# Which things are events hangs on the letters and on how many there are, not
# on their order: so one row is enough, and it may be the row ahead of them all.
def is_event_of(row, thing):
    """Whether a thing is an event of a pair of rows of this row's letters."""
    if not has_word(thing):
        return False
    word = thing[0]
    if len(thing) == 3:
        return word == "as" and are_unlike_places(row, thing[1], thing[2])
    if word == "name":
        return is_letter_of(row, thing[1])
    return word in WORDS_WITH_ONE_PLACE and is_place(row, thing[1])


def has_word(thing):
    """Whether a thing is a tuple of a text and one or two more parts, as all events are."""
    if type(thing) is not tuple or not 2 <= len(thing) <= 3:
        return False
    word = thing[0]
    return type(word) is str


def are_unlike_places(row, one, other):
    """Whether both things are places of the row, and not the same one."""
    return is_place(row, one) and is_place(row, other) and one != other


def need_row(row):
    """Refuse what is no row."""
    if not is_row(row):
        raise NoRow()


def need_letter(row, letter):
    """Refuse what is no letter of the row."""
    if not is_letter_of(row, letter):
        raise NoLetter()


def need_letters(row, letters):
    """Refuse what is no list of letters of the row."""
    if type(letters) is not list:
        raise NoLetter()
    if not all([is_letter_of(row, letter) for letter in letters]):
        raise NoLetter()


def need_pair(pair):
    """Refuse what is no pair."""
    if not is_pair(pair):
        raise NoPair()


def need_events(pair, events):
    """Refuse what is no list of events of the pair."""
    if type(events) is not list:
        raise NoEvents()
    if not all([is_event_of(pair[0], event) for event in events]):
        raise NoEvents()


def to_front(row, place):
    """The row behind the taking of the letter at a place to the front."""
    return (row[place],) + row[:place] + row[place + 1:]


def place_told(row, event):
    """The place of the teller's row at which the letter of an event stands."""
    if event[0] == "name":
        return row.index(event[1])
    return event[1]


def places_heard(row, event):
    """The places of the hearer's row that an event takes, one behind another."""
    word = event[0]
    if word == "name":
        return [row.index(event[1])]
    if word == "lost":
        return []
    if word == "twice":
        return [event[1], event[1]]
    # Of "place" the last part is its one place, of "as" the hearer's.
    return [event[-1]]


def go(pair, events):
    """The pair behind the events, the letters told and the letters written."""
    need_pair(pair)
    need_events(pair, events)
    return gone(pair, events, to_front)


def gone(pair, events, taken):
    """What go tells, of events that surely are the pair's; taken tells the row behind the telling of a place of it."""
    told, heard = pair
    said = []
    written = []
    for event in events:
        place = place_told(told, event)
        said.append(told[place])
        told = taken(told, place)
        places = places_heard(heard, event)
        for at in places:
            written.append(heard[at])
            heard = taken(heard, at)
    return (told, heard), said, written


def has_name(events):
    """Whether one of the events is a name."""
    return any([event[0] == "name" for event in events])


def places_of_letters(row, letters):
    """The places at which the letters stand, each when those ahead of it have been taken to the front."""
    places = []
    standing = row
    for letter in letters:
        place = standing.index(letter)
        places.append(place)
        standing = to_front(standing, place)
    return places


def told_by_places(row, letters):
    """The events by which the letters are told, each by its place, one behind another."""
    return [("place", place) for place in places_of_letters(row, letters)]


def brought_to_front(row, letters):
    """The events by which unlike letters come to stand in front in just their order."""
    return told_by_places(row, letters[::-1])
