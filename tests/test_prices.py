"""Points [17] and [18]: which letters need a name to be heard right from now on."""

import unittest
from itertools import permutations, product

from tests.helpers import NO_PAIRS, SIXTEEN, Refusing, kinds_of, model_go, other_things, pair_of, pairs_of, shuffled
from twonames.errors import NoPair, TooMany
from twonames.prices import needs, orders, telling
from twonames.rows import go

FURTHER_PAIRS = [
    (SIXTEEN, SIXTEEN), (SIXTEEN, SIXTEEN[::-1]), (SIXTEEN, SIXTEEN[5:] + SIXTEEN[:5]),
    (SIXTEEN, tuple("badcfehgjilknmpo")),
] + [(shuffled(SIXTEEN, turn), shuffled(SIXTEEN, turn + 20)) for turn in range(20)]


def model_needs(pair, text):
    """The numbers by the words of (17): of first tellings, by those not told yet that stand ahead in each row."""
    left, found = set(pair[0]), []
    for number, letter in enumerate(text):
        ahead = [sum(x in left for x in row[:row.index(letter)]) for row in pair]
        if letter in left and ahead[0] != ahead[1]:
            found.append(number)
        left.discard(letter)
    return found


def moved_needs(pair, text, named_too=()):
    """The numbers by rows moved letter by letter; further letters are told by name, too."""
    found = []
    for number, letter in enumerate(text):
        place = pair[0].index(letter)
        behind, _, written = model_go(pair, [("place", place)])
        if written != [letter]:
            found.append(number)
        if written != [letter] or number in named_too:
            behind = model_go(pair, [("name", letter)])[0]
        pair = behind
    return found


def texts_of(row):
    """Texts of none, one and many letters, some of them told often."""
    row = list(row)
    yield []
    for letter in row:
        yield [letter]
        yield [letter] * 5
    yield row
    yield row[::-1]
    yield row + row[::-1] + row
    for turn in range(5):
        yield list(shuffled(row * 3, turn))
    yield list(shuffled(row * 200, 7))[:200]


class Needs(unittest.TestCase):
    def check(self, pair, text):
        kept = list(text)
        told = needs(pair, text)
        self.assertIs(type(told), list)
        self.assertEqual({type(number) for number in told} - {int}, set())
        self.assertEqual(told, model_needs(pair, text), (pair, text))
        self.assertEqual(told, moved_needs(pair, text), (pair, text))
        self.check_telling(pair, text, told)
        self.assertEqual(text, kept)

    def check_telling(self, pair, text, numbers):
        events = telling(pair, text)
        self.assertIs(type(events), list)
        kinds = ["name" if number in numbers else "place" for number in range(len(text))]
        self.assertEqual(kinds_of(events), kinds, (pair, text))
        for told in [go(pair, events), model_go(pair, events)]:
            self.assertEqual(told[1:], (text, text))

    def test_every_text_of_up_to_four_letters_of_small_pairs(self):
        for letters in ["a", "bx", "cad"]:
            for pair in pairs_of(letters):
                for many in range(5):
                    for text in product(letters, repeat=many):
                        self.check(pair, list(text))

    def test_every_order_of_four_letters(self):
        for pair in pairs_of("cdxz"):
            for text in permutations("cdxz"):
                self.check(pair, list(text))

    def test_sixteen_letters(self):
        for pair in FURTHER_PAIRS:
            for text in texts_of(pair[0]):
                self.check(pair, text)

    def test_by_example(self):
        for told, heard, text, numbers in [
            ("a", "a", "a", []), ("abc", "abc", "cabba", []), ("ab", "ba", "a", [0]), ("ab", "ba", "ab", [0]),
            ("ab", "ba", "ba", [0]), ("ab", "ba", "aabab", [0]), ("abc", "cba", "b", []), ("abc", "cba", "bac", [1]),
            ("abc", "cba", "abc", [0, 1]), ("abc", "cba", "cbbcba", [0, 1]), ("abcd", "badc", "abcd", [0, 2]),
            ("abcd", "bcda", "bcda", [0, 1, 2]), ("abcd", "bcda", "abcd", [0]),
        ]:
            self.assertEqual(needs(pair_of(told, heard), list(text)), numbers, (told, heard, text))

    def test_events_by_example(self):
        self.assertEqual(telling(pair_of("abc", "cba"), []), [])
        self.assertEqual(
            telling(pair_of("abc", "cba"), list("bacab")),
            [("place", 1), ("name", "a"), ("place", 2), ("place", 1), ("place", 2)],
        )
        self.assertEqual(
            telling(pair_of("ab", "ba"), list("bbab")), [("name", "b"), ("place", 0), ("place", 1), ("place", 1)],
        )

    def test_later_tellings_need_no_name(self):
        for pair in FURTHER_PAIRS:
            text = list(pair[0]) + list(shuffled(pair[0] * 5, 3))
            self.assertLess(max(needs(pair, text), default=0), 16)

    def test_names_told_at_others_change_nothing_of_it(self):
        for pair in FURTHER_PAIRS:
            text = list(shuffled(pair[0] * 2, 4))
            for named_too in [range(0, 32, 2), range(1, 32, 2), range(32), [0], [5, 6, 7]]:
                self.assertEqual(moved_needs(pair, text, named_too), needs(pair, text))

    def test_a_place_in_the_stead_of_a_needed_name_is_written_otherwise(self):
        for pair in FURTHER_PAIRS:
            text = list(shuffled(pair[0] * 2, 5))
            events = telling(pair, text)
            for number in needs(pair, text):
                told = model_go(pair, events[:number])[0][0]
                otherwise = events[:number] + [("place", told.index(text[number]))]
                _, said, written = go(pair, otherwise)
                self.assertEqual(said, text[:number + 1])
                self.assertEqual(written[:number], text[:number])
                self.assertNotEqual(written[number], text[number])

    def test_in_a_needed_places_stead_a_name_does_too(self):
        pair = pair_of("dbca", "acbd")
        for text in permutations("abcd"):
            events = [("name", x) for x in text]
            self.assertEqual(go(pair, events)[2], list(text))


def gone_through(pair):
    """What (18) tells, all orders gone through."""
    told = {order: len(model_needs(pair, order)) for order in permutations(sorted(pair[0]))}
    least, most = min(told.values()), max(told.values())
    return (
        least, min(order for order in told if told[order] == least),
        most, min(order for order in told if told[order] == most),
    )


class Orders(Refusing, unittest.TestCase):
    def check(self, pair):
        told = orders(pair)
        self.assertEqual([type(part) for part in told], [int, tuple, int, tuple])
        self.assertIs(type(told), tuple)
        self.assertEqual(told, gone_through(pair), pair)

    def test_every_pair_of_up_to_four_letters(self):
        for letters in ["a", "bx", "abc", "cdxz"]:
            for pair in pairs_of(letters):
                self.check(pair)

    def test_five_letters(self):
        for turn, heard in enumerate(permutations("xbcqe")):
            self.check((shuffled("xbcqe", turn), heard))

    def test_seven_letters(self):
        for turn in range(6):
            self.check((shuffled("gbxdzfa", turn), shuffled("gbxdzfa", turn + 6)))

    def test_a_row_from_behind(self):
        for row in ["ab", "cab", "dbca", "xbcqe", "fbcade", "gfedcba"]:
            self.check(pair_of(row, row[::-1]))
        self.assertEqual(orders(pair_of("abc", "cba")), (1, tuple("bac"), 2, tuple("abc")))

    def test_rows_alike(self):
        for row in ["a", "ba", "cab", "dbca", "gbxdzfa", "abcdefg"]:
            least = tuple(sorted(row))
            self.assertEqual(orders(pair_of(row, row)), (0, least, 0, least))

    def test_one_letter_from_the_front_to_the_back(self):
        self.assertEqual(orders(pair_of("abcdefg", "bcdefga")), (1, tuple("abcdefg"), 6, tuple("bcdefag")))

    def test_more_than_seven_letters(self):
        for pair in [pair_of("abcdefgh", "abcdefgh"), pair_of("abcdefgh", "hgfedcba")] + FURTHER_PAIRS[:2]:
            with self.assertRaises(TooMany) as caught:
                orders(pair)
            self.assertIs(type(caught.exception), TooMany)
            self.assertEqual(caught.exception.many, 7)
            self.assertIs(type(caught.exception.many), int)


class Refused(Refusing, unittest.TestCase):
    def test_no_pair(self):
        for thing in NO_PAIRS + other_things():
            self.refused(NoPair, needs, thing, ["a"])
            self.refused(NoPair, telling, thing, ["a"])
            self.refused(NoPair, orders, thing)

    def test_no_letter(self):
        for asked in (needs, telling):
            self.letters_refused(lambda word, thing: asked(pair_of(word, word[::-1]), thing))

    def test_no_pair_goes_ahead_of_no_letter(self):
        for pair in NO_PAIRS + other_things():
            for text in [None, (), "abc", ["?"], [0]]:
                self.refused(NoPair, needs, pair, text)
                self.refused(NoPair, telling, pair, text)


if __name__ == "__main__":
    unittest.main()
