"""Names alone, nothing between: the fewest that make the rows alike."""

from twonames.rows import need_letters, need_pair


def alone(pair):
    """The fewest letters whose names alone make the rows alike, and the lots that show it."""
    need_pair(pair)
    lengths = lengths_from(pair)
    kept = least_longest(pair, lengths)
    letters = sorted([letter for letter in pair[0] if letter not in kept])
    return letters, lots_of(pair[0], lengths)


def is_ahead(rows, letter, other):
    """Whether a letter stands ahead of another one in all rows."""
    return all([row.index(letter) < row.index(other) for row in rows])


def lengths_from(rows):
    """Of each letter, how long the longest row is that begins with it and stands in all rows in one order."""
    lengths = {}
    for letter in reversed(rows[0]):
        behind = [lengths[other] for other in lengths if is_ahead(rows, letter, other)]
        lengths[letter] = 1 + max(behind, default=0)
    return lengths


def least_longest(rows, lengths):
    """The least of the longest rows that stand in all rows in one order."""
    length = max(lengths.values())
    kept = [min(letters_of_length(lengths, length))]
    while len(kept) < length:
        further = letters_of_length(lengths, length - len(kept))
        kept.append(min([letter for letter in further if is_ahead(rows, kept[-1], letter)]))
    return tuple(kept)


def letters_of_length(lengths, length):
    """The letters with which a longest row of just this length begins."""
    return [letter for letter in lengths if lengths[letter] == length]


# Of two letters that stand in one order in both rows, the one ahead begins a
# longer row: so letters of one length stand in both in unlike orders.
def lots_of(row, lengths):
    """The letters in one lot for each length, each lot in the row's order, by their first letters."""
    lots = []
    for length in range(1, max(lengths.values()) + 1):
        lots.append(tuple([letter for letter in row if lengths[letter] == length]))
    return sorted(lots)


def can_heal(pair, letters):
    """Whether names of just these letters, nothing between, make the rows alike."""
    need_pair(pair)
    need_letters(pair[0], letters)
    told, heard = pair
    return without(told, letters) == without(heard, letters)


def without(row, letters):
    """The letters of a row that are not among these, in its order."""
    return [letter for letter in row if letter not in letters]
