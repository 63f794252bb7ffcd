"""Point [11]: how few faults make the wished rings, and what is even."""

import unittest
from itertools import permutations

from tests.helpers import (
    NO_PAIRS, NO_RINGS, NO_ROWS, SIXTEEN, Refusing, faults_of, is_alike, kinds_of, many_events, model_fewest, model_go,
    model_reading, model_rings, nameless_of, other_things, pair_of, pairs_of, shuffled, told_rings,
)
from twonames.errors import NoPair, NoRings, NoRow
from twonames.made import even, made_by
from twonames.readings import fault_rings, left, rings


def model_even(pair):
    """Whether the places of the heard letters in the teller's row are out of order an even number of times."""
    places = [pair[0].index(x) for x in pair[1]]
    return sum(places[i] > places[j] for j in range(len(places)) for i in range(j)) % 2 == 0


class HowFew(unittest.TestCase):
    def check(self, row, wished, many):
        told = made_by(row, wished)
        self.assertEqual((type(told), len(told)), (tuple, 2))
        self.assertIs(type(told[0]), int)
        self.assertIs(type(told[1]), list)
        self.assertEqual(told[0], many)
        self.assertEqual(sum(kind != "place" for kind in kinds_of(told[1])), many)
        for event in told[1]:
            self.assertIn(event, nameless_of(row))
        behind = model_go((row, row), told[1])[0]
        self.assertEqual(model_rings(model_reading(behind)), wished, row)

    def test_no_ring(self):
        for row in ["a", "z", "ba", "cab", SIXTEEN, SIXTEEN[::-1]]:
            self.check(tuple(row), [], 0)

    def test_one_ring(self):
        for word in ["ab", "ae", "abc", "acb", "aebdc", "abcde", "bd", "bed", "cde"]:
            for turn in range(6):
                self.check(shuffled("abcde", turn), told_rings(word), 1)

    def test_several_rings(self):
        for words in ["ab cd", "ad be", "abe cd", "aeb cd", "ac bde", "ac bed", "ae bd"]:
            for turn in range(6):
                self.check(shuffled("abcde", turn), told_rings(words), 2)
        for words in ["ab cd ef", "ad be cf", "agb cd ehf", "abcd efgh", "ah bgc dfe"]:
            for turn in range(6):
                self.check(shuffled("abcdefgh", turn), told_rings(words), 2)

    def test_every_list_of_rings_of_up_to_five_letters(self):
        for many in range(1, 6):
            for turn, order in enumerate(permutations("xbcqe"[:many])):
                wished = model_rings(dict(zip("xbcqe", order)))
                self.check(shuffled("xbcqe"[:many], turn), wished, min(2, len(wished)))

    def test_every_row_of_four_letters(self):
        for row in permutations("abcd"):
            for words, many in [("acdb", 1), ("bd", 1), ("ac bd", 2), ("ad bc", 2)]:
                self.check(row, told_rings(words), many)

    def test_sixteen_letters(self):
        for words, many in [
            ("ap", 1), ("hi", 1), ("abcdefghijklmnop", 1), ("aponmlkjihgfedcb", 1), ("cgdfe", 1),
            ("ab cd ef gh ij kl mn op", 2), ("ap bo cn dm el fk gj hi", 2), ("abcdefgh ijklmnop", 2),
            ("aponmlk bcd ehgf ji", 2), ("ai bphcogdnf ejmkl", 2),
        ]:
            wished = [ring[ring.index(min(ring)):] + ring[:ring.index(min(ring))] for ring in told_rings(words)]
            for row in [SIXTEEN, SIXTEEN[::-1], SIXTEEN[5:] + SIXTEEN[:5]] + [shuffled(SIXTEEN, t) for t in range(5)]:
                self.check(row, sorted(wished), many)
        for turn in range(40):
            wished = model_rings(dict(zip(SIXTEEN, shuffled(SIXTEEN, turn))))
            self.check(shuffled(SIXTEEN, turn + 100), wished, min(2, len(wished)))

    def test_no_fewer_faults_do(self):
        for row in [tuple("dbca"), tuple("zx"), tuple("bca")]:
            for pair, many in model_fewest(row, model_go, faults_of(row)).items():
                self.assertEqual(made_by(row, model_rings(model_reading(pair)))[0], many, pair)

    def test_what_is_told_of_rings_may_be_handed_in(self):
        events = many_events(SIXTEEN, 60, names=False)
        pair = SIXTEEN, SIXTEEN[3:] + SIXTEEN[:3]
        behind = model_go(pair, events)[0]
        for wished in [rings(pair), rings(behind), left(pair, events)]:
            self.check(behind[0], wished, min(2, len(wished)))


class Even(unittest.TestCase):
    def test_by_example(self):
        for told, heard, said in [
            ("a", "a", True), ("abcdef", "abcdef", True), ("ab", "ba", False), ("abc", "bca", True),
            ("abcd", "bcda", False), ("abcde", "bcdea", True), ("dabc", "abcd", False), ("abcd", "badc", True),
            ("abcde", "bcaed", False), ("abcdef", "badcfe", False), ("abcdef", "bcaefd", True),
            (SIXTEEN, SIXTEEN[1:] + SIXTEEN[:1], False), (SIXTEEN, SIXTEEN[::-1], True),
        ]:
            self.assertIs(even(pair_of(told, heard)), said, (told, heard))

    def test_every_pair_of_up_to_four_letters(self):
        for letters in ["a", "bx", "abc", "cdxz"]:
            for pair in pairs_of(letters):
                self.assertIs(even(pair), model_even(pair), pair)

    def test_sixteen_letters(self):
        for turn in range(60):
            pair = shuffled(SIXTEEN, turn), shuffled(SIXTEEN, turn + 60)
            self.assertIs(even(pair), model_even(pair))

    def test_a_fault_turns_it_just_where_its_ring_has_an_even_number_of_letters(self):
        for pair in pairs_of("abcd") + [(SIXTEEN, SIXTEEN[2:] + SIXTEEN[:2]), pair_of("abcde", "edcba")]:
            turned = set()
            for event in nameless_of(pair[0]):
                behind = model_go(pair, [event])[0]
                many = sum(map(len, fault_rings(pair, [event])))
                self.assertIs(even(behind) != even(pair), many > 0 and many % 2 == 0, (pair, event))
                turned.add(even(behind) != even(pair))
            self.assertEqual(turned, {True, False})

    def test_a_name_may_turn_it_or_not(self):
        self.assertIs(even(pair_of("ab", "ab")), True)
        self.assertIs(even(model_go(pair_of("ab", "ba"), [("name", "a")])[0]), True)
        self.assertTrue(is_alike(model_go(pair_of("ab", "ba"), [("name", "a")])[0]))


class Refused(Refusing, unittest.TestCase):
    def test_no_row(self):
        for thing in NO_ROWS + other_things():
            self.refused(NoRow, made_by, thing, [])
            self.refused(NoRow, made_by, thing, told_rings("ab"))

    def test_no_rings(self):
        for thing in NO_RINGS + other_things():
            self.refused(NoRings, made_by, tuple("ebcda"), thing)
        for thing in other_things():
            self.refused(NoRings, made_by, tuple("ebcda"), [thing])
            self.refused(NoRings, made_by, tuple("ebcda"), [("a", "b"), thing])
            self.refused(NoRings, made_by, tuple("ebcda"), [("a", thing)])

    def test_rings_of_a_greater_row(self):
        for words in ["ac", "ab cd", "cd", "abc"]:
            self.refused(NoRings, made_by, tuple("ba"), told_rings(words))
            self.assertEqual(made_by(tuple("dbca"), told_rings(words))[0], len(words.split()))
        self.refused(NoRings, made_by, ("a",), told_rings("a"))
        self.refused(NoRings, made_by, ("a",), told_rings("ab"))

    def test_what_is_told_of_faults_is_no_list_of_rings_where_nothing_changes(self):
        self.refused(NoRings, made_by, tuple("abc"), fault_rings(pair_of("abc", "abc"), [("lost", 0)]))

    def test_no_row_goes_ahead_of_no_rings(self):
        for row in NO_ROWS + other_things():
            for wished in [None, (), told_rings("a"), told_rings("ba"), [None]]:
                self.refused(NoRow, made_by, row, wished)

    def test_no_pair(self):
        for thing in NO_PAIRS + other_things():
            self.refused(NoPair, even, thing)


if __name__ == "__main__":
    unittest.main()
