"""A hearer who learns letters by name."""

from twonames.errors import NoEvents, NoLetter, NoPair
from twonames.readings import rings_of
from twonames.rows import (
    MOST_LETTERS, are_unlike_letters, has_word, is_letter, is_place, need_letters, places_of_letters, to_front,
)


def is_learning(thing):
    """Whether a thing, whatever it may be, is a learning pair."""
    if type(thing) is not tuple or len(thing) != 2:
        return False
    told, heard = thing
    if type(told) is not tuple or type(heard) is not tuple or len(told) > MOST_LETTERS:
        return False
    if len(heard) > 0 and heard[-1] is None:
        return False
    return are_unlike_letters(told) and are_unlike_letters(letters_within(heard))


def letters_within(heard):
    """What stands in a hearer's row but nobody."""
    return [part for part in heard if part is not None]


def need_learning(pair):
    """Refuse what is no learning pair."""
    if not is_learning(pair):
        raise NoPair()


def is_event_now(pair, thing):
    """Whether a thing is an event that can be where a learning pair stands so."""
    if not has_word(thing):
        return False
    word = thing[0]
    if len(thing) == 3:
        return word == "named" and is_place(pair[0], thing[1]) and stands_at(pair[0], thing[1], thing[2])
    if word in ("new", "lostnew"):
        return is_new(pair, thing[1])
    return word in ("place", "lost", "twice") and is_place(pair[0], thing[1])


def stands_at(told, place, thing):
    """Whether a thing is the letter at a place."""
    return is_letter(thing) and told[place] == thing


def is_new(pair, thing):
    """Whether a thing is a letter that may be new to both."""
    told, heard = pair
    return is_letter(thing) and thing not in told and thing not in heard and len(told) < MOST_LETTERS


def learn(pair, events):
    """The learning pair behind the events, the letters told and what was written."""
    said = []
    written = []
    for behind, letter, heard in steps_of(pair, events):
        pair = behind
        said.append(letter)
        written.extend(heard)
    return pair, said, written


def steps_of(pair, events):
    """For each event the pair behind it, the letter told and the list of what is written."""
    need_learning(pair)
    if type(events) is not list:
        raise NoEvents()
    steps = []
    for event in events:
        if not is_event_now(pair, event):
            raise NoEvents()
        letter = letter_told(pair[0], event)
        heard, written = heard_behind(pair[1], event)
        pair = told_behind(pair[0], event), heard
        steps.append((pair, letter, written))
    return steps


def letter_told(told, event):
    """The letter that an event tells."""
    if event[0] in ("new", "lostnew"):
        return event[1]
    return told[event[1]]


def told_behind(told, event):
    """The teller's row behind an event."""
    if event[0] in ("new", "lostnew"):
        return (event[1],) + told
    return to_front(told, event[1])


def heard_behind(heard, event):
    """The hearer's row behind an event, and the list of what is written."""
    word = event[0]
    if word in ("lost", "lostnew"):
        return heard, []
    if word == "new":
        return (event[1],) + heard, [event[1]]
    if word == "named":
        return taken(learned(heard, event[1], event[2]), event[1])[0], [event[2]]
    behind, who = taken(heard, event[1])
    if word == "place":
        return behind, [who]
    later, who_later = taken(behind, event[1])
    return later, [who, who_later]


def taken(heard, place):
    """The hearer's row behind the taking of who stands at a place to the front, and who that is."""
    whole = reaching(heard, place)
    return without_nobodies_behind(to_front(whole, place)), whole[place]


def reaching(heard, place):
    """The hearer's row with as many nobodies behind it as it takes to have the place."""
    return heard + (None,) * (place + 1 - len(heard))


def without_nobodies_behind(heard):
    """The hearer's row, ended at its last letter."""
    many = len(heard)
    while many > 0 and heard[many - 1] is None:
        many -= 1
    return heard[:many]


def learned(heard, place, letter):
    """The hearer's row where the letter has come to stand at the place, and who stood there where it stood."""
    parts = list(reaching(heard, place))
    if letter in parts:
        parts[parts.index(letter)] = parts[place]
    parts[place] = letter
    return tuple(parts)


def found_out(pair, events):
    """The number of the first event at which nobody is written; None where there is none."""
    for number, step in enumerate(steps_of(pair, events)):
        if None in step[2]:
            return number
    return None


def chains(pair):
    """The rings, and the strings: letters each read as the next one, the last as nobody or as none of the teller's."""
    need_learning(pair)
    told, heard = pair
    read_as = {letter: reaching(heard, place)[place] for place, letter in enumerate(told)}
    strings = strings_of(read_as)
    ended = [letter for string in strings for letter in string]
    return rings_of({letter: read_as[letter] for letter in told if letter not in ended}), strings


def strings_of(read_as):
    """The strings of a dict that tells of each letter as whom it is read, by their first letters."""
    read = list(read_as.values())
    return [string_from(read_as, first) for first in sorted(read_as) if first not in read]


def string_from(read_as, first):
    """The string that begins with a letter."""
    string = [first]
    while read_as[string[-1]] in read_as:
        string.append(read_as[string[-1]])
    return tuple(string)


def namings(pair):
    """How few letters are to be named, so that all are read right."""
    rings, strings = chains(pair)
    return sum([len(ring) - 1 for ring in rings]) + sum([len(string) for string in strings])


def name_all(pair, letters):
    """The events that name the letters, one behind another, each at its place then."""
    need_learning(pair)
    need_letters(pair[0], letters)
    if len(set(letters)) != len(letters):
        raise NoLetter()
    places = places_of_letters(pair[0], letters)
    return [("named", place, letter) for place, letter in zip(places, letters)]
