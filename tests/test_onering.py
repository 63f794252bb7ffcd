"""Point [16]: one ring, healed by one name behind the fewest places."""

import unittest
from itertools import permutations

from tests.helpers import (
    NO_PAIRS, SIXTEEN, Refusing, events_of, is_alike, kinds_of, model_go, model_reading, model_rings, other_things,
    pair_of, pairs_of, shuffled, turned,
)
from twonames.errors import NoPair, NotOne
from twonames.onering import fewest_places, shortest_healing


def has_one_ring(pair):
    return len(model_rings(model_reading(pair))) == 1


def one_name_heals(pair):
    return any(is_alike(model_go(pair, [("name", x)])[0]) for x in pair[0])


def fewest_gone_through(pair):
    """The fewest places ahead of one name that heals, all pairs that come by places gone through."""
    met, layer, many = {pair}, [pair], 0
    while not any(one_name_heals(one) for one in layer):
        later = {model_go(one, [("place", at)])[0] for one in layer for at in range(len(pair[0]))}
        layer = sorted(later - met)
        met |= later
        many += 1
    return many


class Fewest(unittest.TestCase):
    def check(self, pair, many):
        self.assertEqual(fewest_places(pair), many, pair)
        self.assertIs(type(fewest_places(pair)), int)
        events = shortest_healing(pair)
        self.assertIs(type(events), list)
        self.assertEqual(kinds_of(events), ["place"] * many + ["name"], pair)
        for event in events:
            self.assertIn(event, events_of(pair[0]))
        self.assertTrue(is_alike(model_go(pair, events)[0]), pair)

    def test_letters_next_to_one_another_need_no_place(self):
        for told, ring in [
            ("ab", "ab"), ("ba", "ab"), ("cab", "ab"), ("abc", "ab"), ("abcd", "bcd"), ("abcd", "dbc"), ("abcd", "cdb"),
            ("abcdef", "bcde"), ("abcdef", "debc"), (SIXTEEN, SIXTEEN), (SIXTEEN, SIXTEEN[5:] + SIXTEEN[:5]),
            (SIXTEEN, SIXTEEN[3:9]), (SIXTEEN, SIXTEEN[12:]), (SIXTEEN, SIXTEEN[6:8]),
        ]:
            self.check(turned(told, tuple(ring)), 0)
            # From behind: each is read as the one ahead of it.
            self.check(turned(told, tuple(ring)[::-1]), 0)

    def test_strangers_between_are_brought_to_the_front(self):
        for told, ring, many in [
            ("axbcd", "abcd", 1), ("axbcd", "dcba", 1), ("yaxbc", "abc", 1), ("yabxcd", "cbad", 1),
            ("abxcyd", "abcd", 2), ("abxcyd", "dcba", 2), ("abcdzefgh", "abcdefgh", 1), ("zabcdyxefgh", "abcdefgh", 2),
        ]:
            self.check(turned(told, tuple(ring)), many)

    def test_letters_of_the_ring_are_brought_to_the_front(self):
        for told, ring, many in [
            ("axb", "ab", 1), ("axyzb", "ab", 1), ("yaxzb", "ab", 2), ("abcdxyze", "abcde", 1), ("abxyzc", "abc", 1),
            ("abcdevwxyzf", "abcdef", 1), ("abdc", "abcd", 1), ("bacd", "abcd", 1), ("badc", "abcd", 0),
            ("acbd", "abcd", 2), ("uvaxybwzc", "abc", 3), ("uvcxybwza", "abc", 3),
        ]:
            self.check(turned(told, tuple(ring)), many)

    def test_some_of_the_ring_and_strangers_are_brought_to_the_front(self):
        for told, ring, many in [
            ("xabcdyze", "abcde", 2), ("cxyab", "abc", 2), ("axbcdeyzf", "abcdef", 2), ("xabcdefyzwg", "gfedcba", 2),
        ]:
            self.check(turned(told, tuple(ring)), many)

    def test_every_pair_of_up_to_four_letters_with_one_ring(self):
        for letters in ["bx", "abc", "cdxz"]:
            for pair in pairs_of(letters):
                if has_one_ring(pair):
                    self.check(pair, fewest_gone_through(pair))

    def test_every_ring_of_five_letters(self):
        for turn, heard in enumerate(permutations("xbcqe")):
            pair = shuffled("xbcqe", turn), heard
            if has_one_ring(pair):
                self.check(pair, fewest_gone_through(pair))

    def test_rings_of_six_letters(self):
        found = set()
        for turn, heard in enumerate(permutations("fedabc")):
            pair = shuffled("abcdef", turn), heard
            if turn % 3 == 0 and has_one_ring(pair):
                many = fewest_gone_through(pair)
                self.check(pair, many)
                found.add(many)
        self.assertEqual(found, {0, 1, 2, 3, 4})

    def test_each_letter_counts_once_whichever_way_the_ring_goes(self):
        for pair in [turned("axbyc", tuple("abc")), turned("axbyc", tuple("acb")), turned("cxayb", tuple("abc"))]:
            self.check(pair, fewest_gone_through(pair))
            self.check((pair[1], pair[0]), fewest_gone_through((pair[1], pair[0])))

    def test_a_name_heals_just_where_the_letters_stand_next_to_one_another(self):
        for pair in pairs_of("abcd"):
            if has_one_ring(pair):
                self.assertIs(fewest_places(pair) == 0, one_name_heals(pair), pair)

    def test_sixteen_letters(self):
        for ring, many in [
            ("ap", 1), ("ac", 1), ("hj", 1), ("hl", 2), ("abcdefghijklmnpo", 1), ("acegikmo", 7), ("aomkigec", 7),
            ("bfjn", 4), ("abcdefghp", 1), ("aphgfedcb", 1), ("adgjmp", 5), ("cdefhijk", 1), ("cdefhijkp", 4),
        ]:
            self.check(turned(SIXTEEN, tuple(ring)), many)
        for turn in range(60):
            ring = shuffled(SIXTEEN, turn)[:2 + turn % 15]
            pair = turned(shuffled(SIXTEEN, turn + 60), ring)
            self.check(pair, fewest_places(pair))
            self.assertLessEqual(fewest_places(pair), len(ring))


class Refused(Refusing, unittest.TestCase):
    def test_no_pair(self):
        for thing in NO_PAIRS + other_things():
            self.refused(NoPair, fewest_places, thing)
            self.refused(NoPair, shortest_healing, thing)

    def test_no_ring_and_several(self):
        for told, heard in [
            ("a", "a"), ("ab", "ab"), ("cab", "cab"), (SIXTEEN, SIXTEEN),
            ("abcd", "badc"), ("abcde", "edcba"), ("abcde", "bcaed"), ("fedcbazyx", "dfebcazxy"),
            (SIXTEEN, SIXTEEN[::-1]), (SIXTEEN, SIXTEEN[8:] + SIXTEEN[:8]),
        ]:
            self.refused(NotOne, fewest_places, pair_of(told, heard))
            self.refused(NotOne, shortest_healing, pair_of(told, heard))

    def test_every_pair_of_four_letters_without_just_one_ring(self):
        for pair in pairs_of("abcd"):
            if not has_one_ring(pair):
                self.refused(NotOne, fewest_places, pair)
                self.refused(NotOne, shortest_healing, pair)


if __name__ == "__main__":
    unittest.main()
