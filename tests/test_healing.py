"""Points [14] and [15]: names with places between, and one name at once."""

import unittest
from itertools import product

from tests.helpers import (
    NO_PAIRS, SIXTEEN, Refusing, events_of, is_alike, kinds_of, many_events, model_go, model_reading, other_things,
    pair_of, pairs_of, shuffled,
)
from twonames.errors import NoEvents, NoLetter, NoPair
from twonames.healing import healing, heals, names_needed, one_name
from twonames.rows import go

# How few names each pair needs, by rings told in the comment behind it.
EXAMPLES = [
    ("a", "a", 0), ("cab", "cab", 0), (SIXTEEN, SIXTEEN, 0),
    ("ab", "ba", 1), ("abc", "acb", 1), ("abc", "bca", 1), ("abcde", "adcbe", 1), ("dabce", "abcde", 1),
    (SIXTEEN, SIXTEEN[1:] + SIXTEEN[:1], 1), (SIXTEEN, SIXTEEN[15:] + SIXTEEN[:15], 1),
    (SIXTEEN, SIXTEEN[5:] + SIXTEEN[:5], 1), (SIXTEEN, ("p",) + SIXTEEN[1:15] + ("a",), 1),
    ("abcd", "badc", 2), ("abcde", "bcaed", 2), ("abcde", "edcba", 2), ("fedcbazyx", "dfebcazxy", 2),
    (SIXTEEN, SIXTEEN[::-1], 2), (SIXTEEN, SIXTEEN[8:] + SIXTEEN[:8], 2), (SIXTEEN, SIXTEEN[6:] + SIXTEEN[:6], 2),
    (SIXTEEN, tuple("badcfehgjilknmpo"), 2), (SIXTEEN, tuple("bcdefgaijklmnhpo"), 2),
]


def model_names(letters):
    """By pair, how few names it needs, gone through: names count one, places none."""
    pairs = pairs_of(letters)
    by_place = {pair: [model_go(pair, [("place", at)])[0] for at in range(len(letters))] for pair in pairs}
    by_name = {pair: [model_go(pair, [("name", x)])[0] for x in letters] for pair in pairs}
    needed = {pair: 0 if is_alike(pair) else 99 for pair in pairs}
    changed = True
    while changed:
        changed = False
        for pair in pairs:
            least = min([needed[behind] for behind in by_place[pair]] + [needed[behind] + 1 for behind in by_name[pair]])
            if least < needed[pair]:
                needed[pair], changed = least, True
    return needed


class Names(unittest.TestCase):
    def test_names_needed_by_example(self):
        for told, heard, many in EXAMPLES:
            self.assertEqual(names_needed(pair_of(told, heard)), many, (told, heard))
            self.assertIs(type(names_needed(pair_of(told, heard))), int)

    def test_no_fewer_names_do(self):
        for letters in ["a", "bx", "abc", "cdxz"]:
            for pair, many in model_names(letters).items():
                self.assertEqual(names_needed(pair), many, pair)

    def check_healing(self, pair, many):
        events = healing(pair)
        self.assertIs(type(events), list)
        for event in events:
            self.assertIn(event, events_of(pair[0]))
        self.assertLessEqual(set(kinds_of(events)), {"place", "name"})
        self.assertEqual(kinds_of(events).count("name"), many, pair)
        self.assertEqual(names_needed(pair), many)
        for behind in [go(pair, events)[0], model_go(pair, events)[0]]:
            self.assertTrue(is_alike(behind), pair)
        self.assertIs(heals(pair, events), True)

    def test_healing_by_example(self):
        for told, heard, many in EXAMPLES:
            self.check_healing(pair_of(told, heard), many)
            self.check_healing(pair_of(heard, told), many)

    def test_healing_of_every_pair_of_up_to_four_letters(self):
        for letters in ["a", "bx", "abc", "cdxz"]:
            for pair, many in model_names(letters).items():
                self.check_healing(pair, many)

    def test_healing_of_sixteen_letters_in_any_order(self):
        for turn in range(60):
            pair = shuffled(SIXTEEN, turn), shuffled(SIXTEEN, turn + 60)
            self.check_healing(pair, names_needed(pair))

    def test_whatever_happened_two_names_heal_it(self):
        for many in [1, 2, 5, 200]:
            pair = go((SIXTEEN, SIXTEEN[::-1]), many_events(SIXTEEN, many))[0]
            self.check_healing(pair, names_needed(pair))


class Heals(unittest.TestCase):
    def test_no_event(self):
        for pair in pairs_of("abc") + [(SIXTEEN, SIXTEEN), (SIXTEEN, SIXTEEN[::-1])]:
            self.assertIs(heals(pair, []), pair[0] == pair[1])

    def test_every_list_of_two_events_of_three_letters(self):
        for pair in pairs_of("abc"):
            for events in product(events_of("abc"), repeat=2):
                said = is_alike(model_go(pair, events)[0])
                self.assertIs(heals(pair, list(events)), said, (pair, events))

    def test_each_kind_heals_somewhere_and_elsewhere_does_not(self):
        for told, heard, event, said in [
            ("ab", "ba", ("lost", 1), True), ("ab", "ab", ("lost", 1), False), ("ab", "ab", ("lost", 0), True),
            ("ab", "ba", ("twice", 1), True), ("ab", "ab", ("twice", 1), False), ("ab", "ba", ("twice", 0), False),
            ("ab", "ba", ("as", 0, 1), True), ("ab", "ba", ("as", 1, 0), True), ("ab", "ab", ("as", 0, 1), False),
            ("ab", "ba", ("name", "a"), True), ("ab", "ab", ("name", "b"), True), ("abc", "cba", ("name", "b"), False),
            ("ab", "ab", ("place", 1), True), ("ab", "ba", ("place", 1), False), ("ab", "ba", ("place", 0), False),
        ]:
            self.assertIs(heals(pair_of(told, heard), [event]), said, (told, heard, event))

    def test_two_hundred_events(self):
        pair = SIXTEEN, SIXTEEN[3:] + SIXTEEN[:3]
        self.assertIs(heals(pair, many_events(SIXTEEN, 200)), is_alike(model_go(pair, many_events(SIXTEEN, 200))[0]))
        places = [("place", at * 7 % 16) for at in range(160)]
        self.assertIs(heals(pair, places), False)
        self.assertIs(heals(pair, places + healing(go(pair, places)[0])), True)
        events = many_events(SIXTEEN, 160)
        self.assertIs(heals(pair, events + healing(go(pair, events)[0])), True)
        self.assertIs(heals(pair, [("name", SIXTEEN[at % 16]) for at in range(200)]), True)
        self.assertIs(heals(pair, [("name", SIXTEEN[at % 2]) for at in range(200)]), False)


class OneName(unittest.TestCase):
    def check(self, pair, letter):
        behind = model_go(pair, [("name", letter)])[0]
        was, now = model_reading(pair), model_reading(behind)
        letters = [x for x in sorted(was) if was[x] != now[x]]
        told = one_name(pair, letter)
        self.assertEqual(told, (behind, letters), (pair, letter))
        self.assertEqual((type(told), type(told[1])), (tuple, list))

    def test_each_letter_of_every_pair_of_up_to_four_letters(self):
        for letters in ["a", "bx", "abc", "cdxz"]:
            for pair in pairs_of(letters):
                for letter in letters:
                    self.check(pair, letter)

    def test_each_letter_of_sixteen(self):
        pairs = [(SIXTEEN, SIXTEEN), (SIXTEEN, SIXTEEN[::-1]), (SIXTEEN, SIXTEEN[5:] + SIXTEEN[:5])]
        pairs += [(shuffled(SIXTEEN, turn), shuffled(SIXTEEN, turn + 9)) for turn in range(9)]
        for pair in pairs:
            for letter in SIXTEEN:
                self.check(pair, letter)

    def test_by_example(self):
        for told, heard, letter, told_behind, heard_behind, letters in [
            ("a", "a", "a", "a", "a", ""), ("ab", "ba", "a", "ab", "ab", "ab"), ("ab", "ab", "b", "ba", "ba", ""),
            ("abc", "cba", "a", "abc", "acb", "abc"), ("abc", "cba", "b", "bac", "bca", ""),
            ("dbca", "acbd", "b", "bdca", "bacd", "bc"), ("dcba", "bcad", "b", "bdca", "bcad", "bcd"),
        ]:
            self.assertEqual(
                one_name(pair_of(told, heard), letter), (pair_of(told_behind, heard_behind), list(letters)),
            )


class Refused(Refusing, unittest.TestCase):
    def test_no_pair(self):
        for thing in NO_PAIRS + other_things():
            self.refused(NoPair, names_needed, thing)
            self.refused(NoPair, healing, thing)
            self.refused(NoPair, heals, thing, [])
            self.refused(NoPair, heals, thing, [("place", 0)])
            self.refused(NoPair, one_name, thing, "a")

    def test_no_events(self):
        for pair in [pair_of("abc", "bca"), pair_of("abc", "abc")]:
            for thing in [
                ("place", 3), ("lost", 3), ("twice", -1), ("lost", True), ("as", 1, 1), ("as", 0, 3), ("name", "d"),
                ["lost", 0], ("lost",), ("lost", 0, 1), ("found", 0),
            ] + other_things():
                self.refused(NoEvents, heals, pair, [thing])
                self.refused(NoEvents, heals, pair, [("name", "a"), thing])
            for thing in [(("lost", 1),), ("lost", 1), "lost", (), {}] + other_things():
                self.refused(NoEvents, heals, pair, thing)

    def test_no_letter(self):
        for thing in ["d", "A", "ab", "", " ", b"a", 0, 1, True, None, ("a",), ["a"], ("name", "a"), {"a"}, {"a": 1}]:
            self.refused(NoLetter, one_name, pair_of("abc", "bca"), thing)
        for thing in other_things():
            self.refused(NoLetter, one_name, pair_of("xyz", "yzx"), thing)

    def test_no_pair_goes_ahead_of_what_else_is_refused(self):
        for pair in NO_PAIRS + other_things():
            for thing in [None, (), [("place", 99)], [("name", "?")], [None]]:
                self.refused(NoPair, heals, pair, thing)
            for thing in [None, (), "?", "ab", ["a"], 0]:
                self.refused(NoPair, one_name, pair, thing)


if __name__ == "__main__":
    unittest.main()
