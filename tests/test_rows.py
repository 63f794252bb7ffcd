"""Points [5], [6] and [7]: letters, rows, pairs, places, events and go."""

import unittest
from itertools import product

from tests.helpers import (
    ALPHABET, NO_EVENTS_OF_ABC, NO_PAIRS, NO_ROWS, SIXTEEN, Refusing, events_of, many_events, model_go, other_things,
    pair_of, pairs_of,
)
from twonames.errors import NoEvents, NoPair
from twonames.rows import go, is_event, is_pair, is_row

ABC = pair_of("abc", "bca")


class Rows(unittest.TestCase):
    def test_rows_are_rows(self):
        for thing in [("a",), ("z",), ("b", "a"), tuple("zyx"), SIXTEEN, SIXTEEN[::-1], tuple(ALPHABET[10:])]:
            self.assertIs(is_row(thing), True, thing)

    def test_each_letter_is_one(self):
        for letter in ALPHABET:
            self.assertIs(is_row((letter,)), True)

    def test_near_rows_are_none(self):
        for thing in NO_ROWS:
            self.assertIs(is_row(thing), False, thing)

    def test_of_all_single_signs_only_a_to_z(self):
        for number in range(3000):
            self.assertIs(is_row((chr(number),)), chr(number) in ALPHABET)

    def test_other_things_are_no_rows_and_no_pairs(self):
        for number, thing in enumerate(other_things()):
            self.assertIs(is_row(thing), False, number)
            self.assertIs(is_pair(thing), False, number)

    def test_pairs_are_pairs(self):
        for told, heard in [("a", "a"), ("ab", "ab"), ("ab", "ba"), ("abc", "cab"), ("zyx", "xzy")]:
            self.assertIs(is_pair(pair_of(told, heard)), True)
        self.assertIs(is_pair((SIXTEEN, SIXTEEN[::-1])), True)

    def test_near_pairs_are_none(self):
        for thing in NO_PAIRS:
            self.assertIs(is_pair(thing), False, thing)


class Events(Refusing, unittest.TestCase):
    def test_events_are_events(self):
        for event in events_of("abc"):
            self.assertIs(is_event(ABC, event), True, event)
        self.assertEqual(len(events_of("abc")), 18)

    def test_events_of_one_letter(self):
        pair = pair_of("q", "q")
        for event in [("place", 0), ("name", "q"), ("lost", 0), ("twice", 0)]:
            self.assertIs(is_event(pair, event), True)
        for event in [("place", 1), ("name", "a"), ("lost", 1), ("twice", 1), ("as", 0, 0), ("as", 0, 1), ("as", 1, 0)]:
            self.assertIs(is_event(pair, event), False)

    def test_events_of_sixteen_letters(self):
        pair = SIXTEEN, SIXTEEN[::-1]
        for event in events_of(SIXTEEN):
            self.assertIs(is_event(pair, event), True)
        for event in [("place", 16), ("lost", 16), ("twice", 16), ("as", 0, 16), ("as", 16, 0), ("name", "q")]:
            self.assertIs(is_event(pair, event), False)

    def test_near_events_are_none(self):
        for thing in NO_EVENTS_OF_ABC:
            self.assertIs(is_event(ABC, thing), False, thing)

    def test_other_things_are_no_events(self):
        for number, thing in enumerate(other_things()):
            self.assertIs(is_event(ABC, thing), False, number)

    def test_what_is_no_pair_is_refused_whatever_the_thing_is(self):
        for pair in NO_PAIRS + other_things():
            for thing in [("place", 0), ("name", "a"), ("as", 0, 1), ("place", 99), [("place", 0)], None, "", pair]:
                self.refused(NoPair, is_event, pair, thing)
                self.refused(NoPair, is_event, pair=pair, thing=thing)
                self.refused(NoPair, is_event, thing=thing, pair=pair)

    def test_of_what_is_no_pair_not_one_thing_is_told_of(self):
        for thing in NO_EVENTS_OF_ABC + other_things():
            self.refused(NoPair, is_event, [ABC[0], ABC[1]], thing)

    def test_a_row_with_a_letter_less_than_the_other_is_in_no_pair(self):
        pair = tuple("jqrzmgntoukp"), tuple("ujqrzmgntkp")
        self.refused(NoPair, is_event, pair, ("as", 11, 9))
        self.refused(NoPair, is_event, pair, [("as", 11, 9)])
        self.assertIs(is_event((pair[0], pair[0][::-1]), ("as", 11, 9)), True)
        self.assertIs(is_event((pair[0], pair[0][::-1]), [("as", 11, 9)]), False)

    def test_by_name_too_it_is_told_of_anything(self):
        for thing in events_of("abc"):
            self.assertIs(is_event(thing=thing, pair=ABC), True, thing)
        for number, thing in enumerate(NO_EVENTS_OF_ABC + other_things()):
            self.assertIs(is_event(thing=thing, pair=ABC), False, number)


class Going(unittest.TestCase):
    def test_no_event_leaves_the_pair_itself(self):
        for pair in pairs_of("abc") + [pair_of("a", "a"), (SIXTEEN, SIXTEEN[::-1])]:
            self.assertEqual(go(pair, []), (pair, [], []))

    def test_each_kind_by_itself(self):
        pair = pair_of("abcd", "dbac")
        for event, told, heard, said, written in [
            (("place", 2), "cabd", "adbc", "c", "a"),
            (("place", 0), "abcd", "dbac", "a", "d"),
            (("name", "c"), "cabd", "cdba", "c", "c"),
            (("name", "a"), "abcd", "adbc", "a", "a"),
            (("lost", 2), "cabd", "dbac", "c", ""),
            (("lost", 0), "abcd", "dbac", "a", ""),
            (("twice", 2), "cabd", "badc", "c", "ab"),
            (("twice", 0), "abcd", "dbac", "a", "dd"),
            (("as", 2, 3), "cabd", "cdba", "c", "c"),
            (("as", 3, 0), "dabc", "dbac", "d", "d"),
            (("as", 0, 1), "abcd", "bdac", "a", "b"),
        ]:
            self.assertEqual(go(pair, [event]), (pair_of(told, heard), list(said), list(written)), event)

    def test_several_events(self):
        events = [("place", 2), ("lost", 1), ("name", "b"), ("twice", 2), ("as", 0, 2)]
        self.assertEqual(go(pair_of("abc", "abc"), events), (pair_of("cba", "bca"), list("cabcc"), list("cbacb")))

    def test_one_letter(self):
        pair = pair_of("x", "x")
        events = [("place", 0), ("name", "x"), ("lost", 0), ("twice", 0)]
        self.assertEqual(go(pair, events), (pair, ["x"] * 4, ["x"] * 4))

    def test_every_list_of_two_events_of_three_letters(self):
        for pair in pairs_of("abc"):
            for events in product(events_of("abc"), repeat=2):
                self.assertEqual(go(pair, list(events)), model_go(pair, events), (pair, events))

    def test_every_event_of_four_letters(self):
        for pair in pairs_of("abcd"):
            for event in events_of("abcd"):
                self.assertEqual(go(pair, [event]), model_go(pair, [event]), (pair, event))

    def test_sixteen_letters_and_two_hundred_events(self):
        pair = SIXTEEN, SIXTEEN[3:] + SIXTEEN[:3]
        events = many_events(SIXTEEN, 200)
        self.assertEqual(go(pair, events), model_go(pair, events))

    def test_many_more_events_are_told_too(self):
        pair = SIXTEEN, SIXTEEN[::-1]
        events = many_events(SIXTEEN, 5000)
        self.assertEqual(go(pair, events), model_go(pair, events))

    def test_names_alone_are_written_as_they_are_told(self):
        names = [("name", x) for x in "cabbcac"]
        for pair in pairs_of("abc"):
            behind, said, written = go(pair, names)
            self.assertEqual((said, written), (list("cabbcac"), list("cabbcac")))
            self.assertEqual(behind, pair_of("cab", "cab"))

    def test_what_is_told_may_be_handed_in_again(self):
        events = many_events("abc", 40)
        for cut in range(41):
            middle, said, written = go(ABC, events[:cut])
            behind, more_said, more_written = go(middle, events[cut:])
            self.assertEqual((behind, said + more_said, written + more_written), go(ABC, events))


class Refused(Refusing, unittest.TestCase):
    def test_no_pair(self):
        for thing in NO_PAIRS + other_things():
            self.refused(NoPair, go, thing, [])
            self.refused(NoPair, go, thing, [("place", 0)])

    def test_no_events(self):
        for thing in NO_EVENTS_OF_ABC + other_things():
            self.refused(NoEvents, go, ABC, [thing])
            self.refused(NoEvents, go, ABC, [("place", 0), thing])
            self.refused(NoEvents, go, ABC, [thing, ("place", 0)])
            self.refused(NoEvents, go, ABC, thing)

    def test_events_in_something_else_than_a_list(self):
        for thing in [(), (("place", 0),), ("place", 0), {}, {("place", 0): 1}, {("place", 0)}, "", None, iter([])]:
            self.refused(NoEvents, go, ABC, thing)

    def test_events_of_a_greater_pair(self):
        for event in [("place", 3), ("lost", 3), ("twice", 3), ("as", 3, 0), ("as", 0, 3), ("name", "d")]:
            self.refused(NoEvents, go, ABC, [event])
            go(pair_of("abcd", "abcd"), [event])

    def test_no_pair_goes_ahead_of_no_events(self):
        for pair in NO_PAIRS + other_things():
            for events in [None, (), [("place", 99)], [("name", "?")], [None]]:
                self.refused(NoPair, go, pair, events)


if __name__ == "__main__":
    unittest.main()
