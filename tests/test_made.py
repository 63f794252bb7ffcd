"""Point [11]: how few faults make the wished rings, and what is even."""

import unittest
from itertools import permutations

from tests.helpers import (
    NO_PAIRS, NO_ROWS, SIXTEEN, Refusing, faults_of, is_alike, kinds_of, many_events, model_go, model_reading,
    model_rings, nameless_of, other_things, pair_of, pairs_of, shuffled, told_rings,
)
from twonames.errors import NoPair, NoRings, NoRow
from twonames.made import even, made_by
from twonames.readings import fault_rings, left, rings

# Of a row of the letters a to e.
NO_RINGS = [
    told_rings("a"), told_rings("ab c"), [()], told_rings("ab") + [()],
    told_rings("ba"), told_rings("bca"), told_rings("cab"), told_rings("ab dc"), told_rings("dc ab"),
    told_rings("cd ab"), told_rings("bc ad"), told_rings("de ab"),
    told_rings("aa"), told_rings("aba"), told_rings("abb"), told_rings("abcdea"), told_rings("ab ab"),
    told_rings("ab bc"), told_rings("ab ac"), told_rings("abc cd"), told_rings("abc ce"),
    told_rings("af"), told_rings("fg"), told_rings("ab fg"), told_rings("aB"), told_rings("AB"),
    [("ab", "c")], [("a", "")], [("a", 1)], [("a", None)], [("a", True)], [(0, 1)], [("a", ("b",))], [("a", ["b"])],
    [("a", b"b")], [["a", "b"]], ["ab"], [{"a", "b"}], [{"a": 1, "b": 2}], [("a", "b"), ["c", "d"]], [("a", "b"), None],
    [("a", "b"), "cd"], [[("a", "b")]], [(("a", "b"),)],
    (("a", "b"),), ("a", "b"), (), "", "ab", "(ab)", None, {}, {("a", "b"): 1}, {("a", "b")}, 0, True, iter([]),
]


def model_even(pair):
    """Whether the places of the heard letters in the teller's row are out of order an even number of times."""
    places = [pair[0].index(x) for x in pair[1]]
    return sum(places[i] > places[j] for j in range(len(places)) for i in range(j)) % 2 == 0


def model_fewest(row):
    """By pair, the fewest faults by which it comes from the row twice, gone through."""
    fewest, layer, many = {}, [(row, row)], 0
    while layer:
        for pair in layer:
            fewest.setdefault(pair, many)
            for at in range(len(row)):
                behind = model_go(pair, [("place", at)])[0]
                if behind not in fewest:
                    fewest[behind] = many
                    layer.append(behind)
        later = {model_go(pair, [fault])[0] for pair in layer for fault in faults_of(row)}
        layer, many = [pair for pair in later if pair not in fewest], many + 1
    return fewest


class HowFew(unittest.TestCase):
    def check(self, row, wished, many):
        told = made_by(row, wished)
        self.assertEqual((type(told), len(told)), (tuple, 2))
        self.assertIs(type(told[0]), int)
        self.assertIs(type(told[1]), list)
        self.assertEqual(told[0], many)
        self.assertEqual(sum(kind != "place" for kind in kinds_of(told[1])), many)
        for event in told[1]:
            self.assertIn(event, nameless_of(row))
        behind = model_go((row, row), told[1])[0]
        self.assertEqual(model_rings(model_reading(behind)), wished, row)

    def test_no_ring(self):
        for row in ["a", "z", "ba", "cab", SIXTEEN, SIXTEEN[::-1]]:
            self.check(tuple(row), [], 0)

    def test_one_ring(self):
        for word in ["ab", "ae", "abc", "acb", "aebdc", "abcde", "bd", "bed", "cde"]:
            for turn in range(6):
                self.check(shuffled("abcde", turn), told_rings(word), 1)

    def test_several_rings(self):
        for words in ["ab cd", "ad be", "abe cd", "aeb cd", "ac bde", "ac bed", "ae bd"]:
            for turn in range(6):
                self.check(shuffled("abcde", turn), told_rings(words), 2)
        for words in ["ab cd ef", "ad be cf", "agb cd ehf", "abcd efgh", "ah bgc dfe"]:
            for turn in range(6):
                self.check(shuffled("abcdefgh", turn), told_rings(words), 2)

    def test_every_list_of_rings_of_up_to_five_letters(self):
        for many in range(1, 6):
            for turn, order in enumerate(permutations("xbcqe"[:many])):
                wished = model_rings(dict(zip("xbcqe", order)))
                self.check(shuffled("xbcqe"[:many], turn), wished, min(2, len(wished)))

    def test_every_row_of_four_letters(self):
        for row in permutations("abcd"):
            for words, many in [("acdb", 1), ("bd", 1), ("ac bd", 2), ("ad bc", 2)]:
                self.check(row, told_rings(words), many)

    def test_sixteen_letters(self):
        for words, many in [
            ("ap", 1), ("hi", 1), ("abcdefghijklmnop", 1), ("aponmlkjihgfedcb", 1), ("cgdfe", 1),
            ("ab cd ef gh ij kl mn op", 2), ("ap bo cn dm el fk gj hi", 2), ("abcdefgh ijklmnop", 2),
            ("aponmlk bcd ehgf ji", 2), ("ai bphcogdnf ejmkl", 2),
        ]:
            wished = [ring[ring.index(min(ring)):] + ring[:ring.index(min(ring))] for ring in told_rings(words)]
            for row in [SIXTEEN, SIXTEEN[::-1], SIXTEEN[5:] + SIXTEEN[:5]] + [shuffled(SIXTEEN, t) for t in range(5)]:
                self.check(row, sorted(wished), many)
        for turn in range(40):
            wished = model_rings(dict(zip(SIXTEEN, shuffled(SIXTEEN, turn))))
            self.check(shuffled(SIXTEEN, turn + 100), wished, min(2, len(wished)))

    def test_no_fewer_faults_do(self):
        for row in [tuple("dbca"), tuple("zx"), tuple("bca")]:
            for pair, many in model_fewest(row).items():
                self.assertEqual(made_by(row, model_rings(model_reading(pair)))[0], many, pair)

    def test_what_is_told_of_rings_may_be_handed_in(self):
        events = many_events(SIXTEEN, 60, names=False)
        pair = SIXTEEN, SIXTEEN[3:] + SIXTEEN[:3]
        behind = model_go(pair, events)[0]
        for wished in [rings(pair), rings(behind), left(pair, events)]:
            self.check(behind[0], wished, min(2, len(wished)))


class Even(unittest.TestCase):
    def test_by_example(self):
        for told, heard, said in [
            ("a", "a", True), ("abcdef", "abcdef", True), ("ab", "ba", False), ("abc", "bca", True),
            ("abcd", "bcda", False), ("abcde", "bcdea", True), ("dabc", "abcd", False), ("abcd", "badc", True),
            ("abcde", "bcaed", False), ("abcdef", "badcfe", False), ("abcdef", "bcaefd", True),
            (SIXTEEN, SIXTEEN[1:] + SIXTEEN[:1], False), (SIXTEEN, SIXTEEN[::-1], True),
        ]:
            self.assertIs(even(pair_of(told, heard)), said, (told, heard))

    def test_every_pair_of_up_to_four_letters(self):
        for letters in ["a", "bx", "abc", "cdxz"]:
            for pair in pairs_of(letters):
                self.assertIs(even(pair), model_even(pair), pair)

    def test_sixteen_letters(self):
        for turn in range(60):
            pair = shuffled(SIXTEEN, turn), shuffled(SIXTEEN, turn + 60)
            self.assertIs(even(pair), model_even(pair))

    def test_a_fault_turns_it_just_where_its_ring_has_an_even_number_of_letters(self):
        for pair in pairs_of("abcd") + [(SIXTEEN, SIXTEEN[2:] + SIXTEEN[:2]), pair_of("abcde", "edcba")]:
            turned = set()
            for event in nameless_of(pair[0]):
                behind = model_go(pair, [event])[0]
                many = sum(map(len, fault_rings(pair, [event])))
                self.assertIs(even(behind) != even(pair), many > 0 and many % 2 == 0, (pair, event))
                turned.add(even(behind) != even(pair))
            self.assertEqual(turned, {True, False})

    def test_a_name_may_turn_it_or_not(self):
        self.assertIs(even(pair_of("ab", "ab")), True)
        self.assertIs(even(model_go(pair_of("ab", "ba"), [("name", "a")])[0]), True)
        self.assertTrue(is_alike(model_go(pair_of("ab", "ba"), [("name", "a")])[0]))


class Refused(Refusing, unittest.TestCase):
    def test_no_row(self):
        for thing in NO_ROWS + other_things():
            self.refused(NoRow, made_by, thing, [])
            self.refused(NoRow, made_by, thing, told_rings("ab"))

    def test_no_rings(self):
        for thing in NO_RINGS + other_things():
            self.refused(NoRings, made_by, tuple("ebcda"), thing)
        for thing in other_things():
            self.refused(NoRings, made_by, tuple("ebcda"), [thing])
            self.refused(NoRings, made_by, tuple("ebcda"), [("a", "b"), thing])
            self.refused(NoRings, made_by, tuple("ebcda"), [("a", thing)])

    def test_rings_of_a_greater_row(self):
        for words in ["ac", "ab cd", "cd", "abc"]:
            self.refused(NoRings, made_by, tuple("ba"), told_rings(words))
            self.assertEqual(made_by(tuple("dbca"), told_rings(words))[0], len(words.split()))
        self.refused(NoRings, made_by, ("a",), told_rings("a"))
        self.refused(NoRings, made_by, ("a",), told_rings("ab"))

    def test_what_is_told_of_faults_is_no_list_of_rings_where_nothing_changes(self):
        self.refused(NoRings, made_by, tuple("abc"), fault_rings(pair_of("abc", "abc"), [("lost", 0)]))

    def test_no_row_goes_ahead_of_no_rings(self):
        for row in NO_ROWS + other_things():
            for wished in [None, (), told_rings("a"), told_rings("ba"), [None]]:
                self.refused(NoRow, made_by, row, wished)

    def test_no_pair(self):
        for thing in NO_PAIRS + other_things():
            self.refused(NoPair, even, thing)


if __name__ == "__main__":
    unittest.main()
