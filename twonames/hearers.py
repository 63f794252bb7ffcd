"""Several hearers of one teller."""

from twonames.alone import least_longest, lengths_from
from twonames.errors import NoHearers
from twonames.prices import needs
from twonames.rows import is_pair, need_row

MOST_HEARERS = 4


def need_hearers(row, hearers):
    """Refuse what is no row, then what is no list of one to four rows of its letters."""
    need_row(row)
    if type(hearers) is not list or not 1 <= len(hearers) <= MOST_HEARERS:
        raise NoHearers()
    if not all([is_pair((row, heard)) for heard in hearers]):
        raise NoHearers()


def all_alone(row, hearers):
    """The fewest letters whose names alone make all rows alike."""
    need_hearers(row, hearers)
    rows = [row] + hearers
    kept = least_longest(rows, lengths_from(rows))
    return sorted([letter for letter in row if letter not in kept])


def all_needs(row, hearers, text):
    """The numbers of the letters of a text that need a name to be heard right by all."""
    need_hearers(row, hearers)
    # A name where another hearer needs none changes nothing of what this one needs.
    needed = {number: True for heard in hearers for number in needs((row, heard), text)}
    return sorted(needed)
