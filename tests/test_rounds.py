"""Points [19] and [20]: the same events told over and over."""

import unittest
from math import lcm

from tests.helpers import (
    NO_PAIRS, SIXTEEN, Awkward, AwkwardNumber, Refusing, events_of, is_alike, kinds_of, many_events, model_go,
    nameless_of, nested, other_things, pair_of, pairs_of, shuffled,
)
from twonames.errors import NoEvents, NoNumber, NoPair, TooMany
from twonames.rounds import period, right_again, rounds
from twonames.rows import go

ABC = pair_of("abc", "cab")
NO_NUMBERS = [
    -1, -2, -1000, -10 ** 29, True, False, None, "", "1", "one", b"1", 1.0, 0.5, float("inf"), 2j, (), (1,), [], [1],
    {}, {1: 1}, {1}, range(1), object(), Awkward(), AwkwardNumber(1), nested(tuple), nested(list), ("place", 0),
]


def ring_of_places(first, last):
    """The places by which one row is turned round from a first place to a last one, and stays ahead of them."""
    return [last] + [first] * first


def turning(told_places, heard_places):
    """Events without names by which the teller alone takes places, then the hearer alone."""
    return [("lost", at) for at in told_places] + [("as", 0, at) for at in heard_places if at > 0]


# In brackets, how many letters stand in each ring of the teller's and of the hearer's turn.
LONG = [
    # (11, 5), (13, 3): 2145
    turning(ring_of_places(0, 10) + ring_of_places(11, 15), ring_of_places(0, 12) + ring_of_places(13, 15)),
    # (13, 3), (4, 5, 7): 5460
    turning(
        ring_of_places(0, 12) + ring_of_places(13, 15),
        ring_of_places(0, 3) + ring_of_places(4, 8) + ring_of_places(9, 15),
    ),
    # (9, 7), (11, 5): 3465
    turning(ring_of_places(0, 8) + ring_of_places(9, 15), ring_of_places(0, 10) + ring_of_places(11, 15)),
]
LENGTHS = [2145, 5460, 3465]
# The name of the letter in front changes nothing where it stands in front of
# both: so a pair comes again just as without names, but too late to be told.
FRONT = [("name", "a")]
TOLD_NAMED = FRONT + turning(
    ring_of_places(1, 11) + ring_of_places(12, 13), ring_of_places(1, 9) + ring_of_places(10, 14),
)    # (11, 2), (9, 5): 990
LATE_NAMED = FRONT + turning(
    ring_of_places(1, 9) + ring_of_places(10, 14), ring_of_places(1, 13) + ring_of_places(14, 15),
)    # (9, 5), (13, 2): 1170


def gone_rounds(pair, events, many):
    """The pairs behind no round, one, and so on, by the model."""
    pairs = [pair]
    for _ in range(many):
        pairs.append(model_go(pairs[-1], events)[0])
    return pairs


def model_period(pair, events, most=3000):
    """Behind how many rounds a pair comes again, and after how many more, gone through; None where it is too late."""
    met = {}
    while pair not in met:
        if len(met) == most:
            return None
        met[pair] = len(met)
        pair = model_go(pair, events)[0]
    return met[pair], len(met) - met[pair]


def model_right(pair, events, most=3000):
    """Behind how many rounds the rows are alike, gone through; None where never, "late" where not within the most."""
    met = set()
    while not is_alike(pair):
        if pair in met:
            return None
        if len(met) == most:
            return "late"
        met.add(pair)
        pair = model_go(pair, events)[0]
    return len(met)


def few_events(row, turn, many, names=True):
    choices = shuffled(events_of(row) if names else nameless_of(row), turn)
    return list(choices[:many])


class Rounds(unittest.TestCase):
    def check(self, pair, events, many):
        told = rounds(pair, events, many)
        self.assertEqual(told, go(pair, events * many)[0], (pair, events, many))
        self.assertEqual(told, gone_rounds(pair, events, many)[-1])
        self.assertEqual([type(told), type(told[0]), type(told[1])], [tuple, tuple, tuple])

    def test_few_rounds_are_one_list_of_events(self):
        for names in [True, False]:
            for turn, pair in enumerate(pairs_of("abc") + pairs_of("cdxz")[::7]):
                for many in range(6):
                    self.check(pair, few_events(pair[0], turn, many, names), many)
                    self.check(pair, few_events(pair[0], turn + 50, 5 - many, names), many)

    def test_sixteen_letters_and_two_hundred_events(self):
        for names in [True, False]:
            for many in [0, 1, 2, 7, 30]:
                self.check((SIXTEEN, SIXTEEN[::-1]), many_events(SIXTEEN, 200, names), many)
                self.check((SIXTEEN, SIXTEEN[5:] + SIXTEEN[:5]), few_events(SIXTEEN, many, 9, names), many)

    def test_no_round(self):
        for pair in pairs_of("abc") + [(SIXTEEN, SIXTEEN[::-1])]:
            for events in [[], [("place", 1)], [("name", "a"), ("lost", 2)]]:
                self.assertEqual(rounds(pair, events, 0), pair)

    def test_no_event(self):
        for pair in pairs_of("abc") + [(SIXTEEN, SIXTEEN[::-1])]:
            for many in [0, 1, 1000, 1001, 10 ** 29, 10 ** 30 - 1]:
                self.assertEqual(rounds(pair, [], many), pair)

    def test_without_names_great_numbers_leave_what_their_rest_leaves(self):
        for turn in range(10):
            pair = shuffled(SIXTEEN, turn), shuffled(SIXTEEN, turn + 10)
            events = few_events(SIXTEEN, turn, 1 + turn, names=False)
            length = period(pair, events)[1]
            told = gone_rounds(pair, events, 20)
            for many in [0, 1, 2, 19]:
                for times in [1, 2, 1000, 10 ** 24]:
                    self.assertEqual(rounds(pair, events, times * length + many), told[many])

    def test_without_names_long_rounds(self):
        for events, length in zip(LONG, LENGTHS):
            pair = SIXTEEN, shuffled(SIXTEEN, 2)
            told = gone_rounds(pair, events, 1500)
            for many in [999, 1000, 1001, 1234, 1500]:
                self.assertEqual(rounds(pair, events, many), told[many])
                self.assertEqual(rounds(pair, events, 10 ** 25 * length + many), told[many])

    def test_with_names_great_numbers_leave_what_their_rest_leaves(self):
        for turn in range(30):
            pair = shuffled("abcdef", turn), shuffled("abcdef", turn + 30)
            events = few_events("abcdef", turn, 1 + turn % 7) + [("name", "c")]
            first, length = model_period(pair, events)
            told = gone_rounds(pair, events, first + length)
            for many in [10 ** 29, 10 ** 29 + 1, 5000, 1001, 1000, 999]:
                self.assertEqual(rounds(pair, events, many), told[first + (many - first) % length])

    def test_with_names_whatever_the_number_where_a_pair_comes_again_in_time(self):
        pair = SIXTEEN, SIXTEEN[1:] + SIXTEEN[:1]
        self.assertEqual(model_period(pair, TOLD_NAMED), (1, 990))
        told = gone_rounds(pair, TOLD_NAMED, 991)
        for many in [0, 1, 990, 991]:
            self.assertEqual(rounds(pair, TOLD_NAMED, many), told[many])
        for many in [1, 2, 500, 990]:
            for times in [1, 2, 10 ** 26]:
                self.assertEqual(rounds(pair, TOLD_NAMED, 990 * times + many), told[many])


class TooManyRounds(unittest.TestCase):
    def check(self, asked, *things):
        with self.assertRaises(TooMany) as caught:
            asked(*things)
        self.assertIs(type(caught.exception), TooMany)
        self.assertEqual(caught.exception.many, 1000)
        self.assertIs(type(caught.exception.many), int)

    def test_a_thousand_rounds_are_told_and_no_more(self):
        for heard in [SIXTEEN, SIXTEEN[1:] + SIXTEEN[:1]]:
            told = gone_rounds((SIXTEEN, heard), LATE_NAMED, 1000)
            for many in [0, 1, 999, 1000]:
                self.assertEqual(rounds((SIXTEEN, heard), LATE_NAMED, many), told[many])
            for many in [1001, 1170, 1171, 10 ** 29, 10 ** 30 - 1]:
                self.check(rounds, (SIXTEEN, heard), LATE_NAMED, many)

    def test_a_pair_that_comes_again_too_late(self):
        self.assertEqual(model_period((SIXTEEN, SIXTEEN), LATE_NAMED), (0, 1170))
        self.assertEqual(model_period((SIXTEEN, SIXTEEN[::-1]), LATE_NAMED), (1, 1170))
        self.check(period, (SIXTEEN, SIXTEEN), LATE_NAMED)
        self.check(period, (SIXTEEN, SIXTEEN[::-1]), LATE_NAMED)

    def test_the_same_rounds_without_names_are_told(self):
        self.assertEqual(period((SIXTEEN, SIXTEEN), LATE_NAMED[1:]), (0, 1170))
        told = gone_rounds((SIXTEEN, SIXTEEN), LATE_NAMED, 1169)
        for many in [1000, 1001, 1169]:
            self.assertEqual(rounds((SIXTEEN, SIXTEEN), LATE_NAMED[1:], many), told[many])
            self.assertEqual(rounds((SIXTEEN, SIXTEEN), LATE_NAMED[1:], 1170 * 10 ** 26 + many), told[many])

    def test_right_just_behind_a_thousand_rounds_and_just_beyond(self):
        told = gone_rounds((SIXTEEN, SIXTEEN), LATE_NAMED, 1169)
        for behind in [169, 170, 171, 172, 500, 1169]:
            pair = told[behind]
            late = 1170 - behind
            self.assertEqual(model_right(pair, LATE_NAMED), late)
            if late <= 1000:
                self.assertEqual(right_again(pair, LATE_NAMED), late)
            else:
                self.check(right_again, pair, LATE_NAMED)
            self.assertEqual(right_again(pair, LATE_NAMED[1:]), late)

    def test_neither_a_right_pair_nor_one_that_comes_again(self):
        pair = SIXTEEN, ("a",) + SIXTEEN[:0:-1]
        self.assertEqual(model_right(pair, LATE_NAMED), None)
        self.check(right_again, pair, LATE_NAMED)
        self.assertIsNone(right_again(pair, LATE_NAMED[1:]))


class Period(unittest.TestCase):
    def check(self, pair, events):
        told = period(pair, events)
        self.assertEqual(told, model_period(pair, events), (pair, events))
        self.assertEqual([type(told)] + [type(part) for part in told], [tuple, int, int])
        if "name" not in kinds_of(events):
            self.assertEqual(told[0], 0)

    def test_every_list_of_two_events_of_three_letters(self):
        for pair in pairs_of("abc")[::5]:
            for event in events_of("abc"):
                self.check(pair, [event])
                for other in events_of("abc"):
                    self.check(pair, [event, other])

    def test_longer_lists(self):
        for turn in range(60):
            row = SIXTEEN[:1 + turn % 9]
            for names in [True, False]:
                self.check((shuffled(row, turn), shuffled(row, turn + 60)), few_events(row, turn, 1 + turn % 8, names))

    def test_no_event(self):
        for pair in pairs_of("abc") + [(SIXTEEN, SIXTEEN[::-1])]:
            self.assertEqual(period(pair, []), (0, 1))

    def test_long_rounds_without_names(self):
        for events, length in zip(LONG, LENGTHS):
            self.assertEqual(period((SIXTEEN, SIXTEEN[::-1]), events), (0, length))
            self.assertEqual(model_period((SIXTEEN, SIXTEEN[::-1]), events, 6000), (0, length))

    def test_the_length_is_the_common_one_of_all_rings(self):
        for many in range(1, 16):
            events = [("as", many, many - 1)]
            self.assertEqual(period((SIXTEEN, SIXTEEN), events), (0, lcm(many + 1, many)))

    def test_names_that_come_again_at_once(self):
        for pair in [pair_of("abc", "abc"), pair_of("abc", "acb")]:
            self.assertEqual(period(pair, [("name", "a")]), (0, 1))
        self.assertEqual(period(pair_of("abc", "cba"), [("name", "a")]), (1, 1))
        self.assertEqual(period(pair_of("abc", "abc"), [("name", "b"), ("place", 1)]), (0, 1))

    def test_names_that_come_again_late(self):
        found = set()
        for turn in range(400):
            row = SIXTEEN[:6]
            pair = shuffled(row, turn), shuffled(row, turn + 400)
            events = few_events(row, turn, 4) + [("name", "a"), ("place", 4), ("name", "b"), ("lost", 3), ("name", "c")]
            self.check(pair, events)
            found.add(period(pair, events)[0])
        self.assertGreaterEqual(max(found), 2)
        self.assertEqual(period((SIXTEEN, SIXTEEN[1:] + SIXTEEN[:1]), TOLD_NAMED), (1, 990))
        self.assertEqual(period((SIXTEEN, SIXTEEN), TOLD_NAMED), (0, 990))


class RightAgain(unittest.TestCase):
    def check(self, pair, events):
        told = right_again(pair, events)
        self.assertEqual(told, model_right(pair, events), (pair, events))
        self.assertIn(type(told), [int, type(None)])

    def test_every_list_of_two_events_of_three_letters(self):
        for pair in pairs_of("abc")[::5]:
            for event in events_of("abc"):
                self.check(pair, [event])
                for other in events_of("abc"):
                    self.check(pair, [event, other])

    def test_right_at_once(self):
        for row in ["a", "cab", SIXTEEN]:
            for events in [[], [("place", 0)], [("lost", 0), ("name", row[0])], many_events(row, 200)]:
                self.assertEqual(right_again(pair_of(row, row), events), 0)

    def test_right_behind_some_rounds(self):
        for told, heard, events, many in [
            ("ab", "ba", [("name", "a")], 1), ("ab", "ba", [("lost", 1)], 1), ("abc", "cab", [("lost", 2)], 1),
            ("abc", "bca", [("lost", 2)], 2), ("abc", "bca", [("name", "b"), ("name", "c")], 1),
            ("abcde", "bcdea", [("lost", 4)], 4), ("abcde", "bcdea", [("as", 0, 4)], 1),
        ]:
            self.assertEqual(model_right(pair_of(told, heard), events), many)
            self.assertEqual(right_again(pair_of(told, heard), events), many, (told, heard, events))

    def test_never_right(self):
        for told, heard, events in [
            ("ab", "ba", []), ("ab", "ba", [("place", 1)]), ("abc", "bac", [("lost", 2)]),
            ("abc", "cba", [("name", "b")]), ("abc", "cba", [("name", "b"), ("place", 0)]),
            ("abcd", "badc", [("as", 1, 3), ("as", 3, 1)]),
        ]:
            self.assertIsNone(right_again(pair_of(told, heard), events), (told, heard, events))
            self.assertIsNone(model_right(pair_of(told, heard), events))

    def test_pairs_that_come_from_a_right_one(self):
        for turn in range(60):
            row = shuffled(SIXTEEN[:2 + turn % 9], turn)
            events = few_events(row, turn, 1 + turn % 6, names=False)
            for pair in gone_rounds((row, row), events, 12)[::3]:
                self.check(pair, events)
                self.check(pair[::-1], events)

    def test_long_rounds_without_names(self):
        for events, length in zip(LONG, LENGTHS):
            told = gone_rounds((SIXTEEN, SIXTEEN), events, length - 1)
            for behind in [1, 2, 77, 1000, 1001, length - 1000, length - 1]:
                self.assertEqual(right_again(told[behind], events), length - behind)
            self.assertIsNone(right_again((SIXTEEN, SIXTEEN[1::-1] + SIXTEEN[2:]), events))

    def test_letters_that_both_rows_turn_alike(self):
        # Of all but two letters any number of rounds is right, of these two every second one.
        events = [("place", 15), ("place", 1)]
        self.assertEqual(right_again((SIXTEEN, SIXTEEN), events), 0)
        swapped = SIXTEEN[:14] + ("p", "o")
        self.assertIsNone(right_again((SIXTEEN, swapped), events))
        both = [("place", 13)] + turning(ring_of_places(14, 15), [])
        self.assertEqual(right_again((SIXTEEN, swapped), both), 1)
        self.assertEqual(right_again(rounds((SIXTEEN, SIXTEEN), both, 10 ** 29), both), 0)
        self.assertEqual(right_again(rounds((SIXTEEN, SIXTEEN), both, 10 ** 29 + 1), both), 1)

    def test_with_names(self):
        for turn in range(200):
            row = SIXTEEN[:3 + turn % 4]
            self.check((shuffled(row, turn), shuffled(row, turn + 200)), few_events(row, turn, 4) + [("name", "b")])

    def test_names_for_ever_need_not_heal(self):
        pair = pair_of("acb", "bca")
        events = [("name", "a"), ("place", 2), ("name", "b"), ("place", 2), ("name", "c"), ("place", 2)]
        self.assertEqual(rounds(pair, events, 1), pair)
        self.assertEqual(period(pair, events), (0, 1))
        self.assertIsNone(right_again(pair, events))
        behind, said, written = go(pair, events * 10)
        self.assertEqual(behind, pair)
        self.assertEqual(sum(one != other for one, other in zip(said, written)), 30)


class Refused(Refusing, unittest.TestCase):
    def test_no_pair(self):
        for thing in NO_PAIRS + other_things():
            self.refused(NoPair, rounds, thing, [], 0)
            self.refused(NoPair, rounds, thing, [("place", 0)], 3)
            self.refused(NoPair, period, thing, [])
            self.refused(NoPair, right_again, thing, [("lost", 0)])

    def test_no_events(self):
        self.events_refused(lambda thing: rounds(ABC, thing, 1))
        self.events_refused(lambda thing: rounds(ABC, thing, 0))
        self.events_refused(lambda thing: period(ABC, thing))
        self.events_refused(lambda thing: right_again(ABC, thing))
        self.refused(NoEvents, right_again, pair_of("abc", "abc"), [("place", 3)])

    def test_no_number(self):
        for thing in NO_NUMBERS:
            for events in [[], [("lost", 1)], [("name", "a")], LATE_NAMED]:
                self.refused(NoNumber, rounds, (SIXTEEN, SIXTEEN), events, thing)

    def test_in_the_order_of_what_is_handed_in(self):
        for pair in NO_PAIRS + other_things():
            for events, many in [(None, None), ([("place", 99)], 1), ([], -1), ([("name", "a")], True)]:
                self.refused(NoPair, rounds, pair, events, many)
            self.refused(NoPair, period, pair, [("place", 99)])
            self.refused(NoPair, right_again, pair, None)
        for many in NO_NUMBERS + [1, 10 ** 29]:
            self.refused(NoEvents, rounds, ABC, [("place", 3)], many)
            self.refused(NoEvents, rounds, ABC, None, many)


if __name__ == "__main__":
    unittest.main()
