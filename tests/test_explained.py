"""Points [21] and [22]: what was told and what was written, explained."""

import unittest
from itertools import product

from tests.helpers import (
    NO_EVENTS_OF_ABC, NO_ROWS, SIXTEEN, Awkward, AwkwardNumber, Refusing, kinds_of, many_events, model_go,
    nameless_of, nested, other_things, shuffled, within_itself,
)
from twonames.errors import NoLetter, NoPlaces, NoRow
from twonames.explained import explained, is_history, places_of, said_of
from twonames.rows import go

ROW = tuple("cab")
NO_PLACES = [
    [3], [0, 3], [-1], [True], [False, 0], [None], ["0"], ["a"], [0.0], [10 ** 29], [-10 ** 29], [(0,)], [[0]],
    [0, None], [Awkward()], [AwkwardNumber(1)], [nested(tuple)], [nested(list)], [within_itself()], [("place", 0)],
    (0,), (), (0, 1), 0, 1, "0", "", None, True, {}, {0: 1}, {0}, range(2), iter([0]), Awkward(), within_itself(),
    nested(list), nested(tuple),
]


def faults_in(events):
    return sum(kind != "place" for kind in kinds_of(events))


def texts_by_histories(row, many):
    """Of all histories of so many events: by texts told and written, how few faults tell and write them."""
    found = {}
    for events in product(nameless_of(row), repeat=many):
        _, said, written = model_go((row, row), events)
        texts = "".join(said), "".join(written)
        found[texts] = min(found.get(texts, many), faults_in(events))
    return found


def model_fewest(row, said, written):
    """The fewest faults, by going on from each pair letter by letter with all events; None where none do."""
    reached = {(0, (row, row)): 0}
    for letter in said:
        later = {}
        for (done, pair), faults in reached.items():
            for event in nameless_of(row):
                behind, told, more = model_go(pair, [event])
                end = done + len(more)
                if told == [letter] and more == written[done:end]:
                    so_many = faults + faults_in([event])
                    key = end, behind
                    later[key] = min(later.get(key, so_many), so_many)
        reached = later
    return min([faults for (done, _), faults in reached.items() if done == len(written)], default=None)


class Explained(unittest.TestCase):
    def check(self, row, said, written, many):
        told = explained(row, said, written)
        if many is None:
            self.assertIsNone(told, (row, said, written))
            return
        self.assertEqual([type(told), type(told[0]), type(told[1])], [tuple, int, list])
        self.assertEqual((told[0], len(told)), (many, 2), (row, said, written))
        self.check_history(row, said, written, told[1])
        self.assertEqual(faults_in(told[1]), many)

    def check_history(self, row, said, written, events):
        for event in events:
            self.assertIn(event, nameless_of(row))
        for told in [go((row, row), events), model_go((row, row), events)]:
            self.assertEqual(told[1:], (said, written))
        self.assertIs(is_history(row, said, written, events), True)

    def check_all(self, row, many):
        """All texts of so many letters told, and any number written."""
        found = texts_by_histories(row, many)
        for said in product(row, repeat=many):
            for length in range(2 * many + 2):
                for written in product(row, repeat=length):
                    fewest = found.get(("".join(said), "".join(written)))
                    self.check(row, list(said), list(written), fewest)

    def test_all_short_texts(self):
        for word, most in [("a", 3), ("xb", 3), ("cab", 2)]:
            for many in range(most + 1):
                self.check_all(tuple(word), many)

    def test_three_letters_told_of_three(self):
        found = texts_by_histories(ROW, 3)
        for said in ["abc", "cba", "bbb", "bcb", "acc", "baa"]:
            for length in range(7):
                for written in product("abc", repeat=length):
                    self.check(ROW, list(said), list(written), found.get((said, "".join(written))))

    def test_longer_texts(self):
        for turn in range(40):
            row = shuffled("abcd", turn)
            said = list(shuffled("abcd" * 3, turn))[:2 + turn % 4]
            for length in range(0, 2 * len(said) + 1, 2):
                written = list(shuffled("abcd" * 4, turn + length + 40))[:length]
                self.check(row, said, written, model_fewest(row, said, written))

    def test_texts_that_no_history_tells_and_writes(self):
        for said, written in [("", "a"), ("", "c"), ("c", "ca"), ("a", "aa"), ("a", "ab"), ("c", "ccc"), ("b", "cba"),
                              ("ab", "aabb"), ("cc", "ccccc"), ("abc", "ccccccc"), ("ca", "caa"), ("a", "cc")]:
            self.assertIsNone(model_fewest(ROW, list(said), list(written)))
            self.check(ROW, list(said), list(written), None)

    def test_no_letter_told_and_none_written(self):
        for row in [("a",), ROW, SIXTEEN]:
            self.assertEqual(explained(row, [], []), (0, []))

    def test_by_example(self):
        for said, written, told in [
            ("c", "c", (0, [("place", 0)])), ("a", "a", (0, [("place", 1)])), ("a", "", (1, [("lost", 1)])),
            ("a", "b", (1, [("as", 1, 2)])), ("c", "cc", (1, [("twice", 0)])), ("a", "ac", (1, [("twice", 1)])),
            ("b", "ba", (1, [("twice", 2)])), ("abba", "abba", (0, [("place", at) for at in (1, 2, 0, 1)])),
        ]:
            self.assertEqual(explained(ROW, list(said), list(written)), told, (said, written))

    def test_where_no_more_is_written_than_told_there_is_one(self):
        for turn in range(30):
            row = shuffled(SIXTEEN, turn)
            said = list(shuffled(SIXTEEN * 4, turn))[:60]
            for length in [0, 1, 30, 59, 60]:
                written = list(shuffled(SIXTEEN * 4, turn + 30))[:length]
                self.check_history(row, said, written, explained(row, said, written)[1])
                self.check(row, said, written, explained(row, said, written)[0])
                self.assertGreaterEqual(explained(row, said, written)[0], 60 - length)

    def test_histories_with_faults_are_explained_by_no_more(self):
        for turn in range(30):
            row = shuffled(SIXTEEN, turn)
            for many in [1, 5, 30, 60]:
                events = list(shuffled(many_events(row, 60 + turn, names=False), turn))[:many]
                events = [event if turn % 5 < at % 7 else ("place", event[1]) for at, event in enumerate(events)]
                _, said, written = model_go((row, row), events)
                told = explained(row, said, written)
                self.assertLessEqual(told[0], faults_in(events))
                self.check(row, said, written, told[0])
                self.assertIs(is_history(row, said, written, events), True)

    def test_histories_without_faults_are_explained_by_none(self):
        for turn in range(10):
            row = shuffled(SIXTEEN, turn)
            said = list(shuffled(row * 5, turn))[:60]
            self.check(row, said, list(said), 0)

    def test_sixty_told_and_none_written(self):
        said = list(shuffled(SIXTEEN * 4, 3))[:60]
        self.check(SIXTEEN, said, [], 60)
        self.assertEqual(kinds_of(explained(SIXTEEN, said, [])[1]), ["lost"] * 60)

    def test_thirty_told_each_written_twice(self):
        for turn in range(5):
            events = [("twice", at) for at in shuffled(tuple(range(16)) * 2, turn)[:30]]
            _, said, written = model_go((SIXTEEN, SIXTEEN), events)
            self.assertEqual((len(said), len(written)), (30, 60))
            self.check(SIXTEEN, said, written, 30)
            self.assertEqual(explained(SIXTEEN, said, written)[1], events)
            self.check(SIXTEEN, said, written + ["a"], None)
        said = list("a" * 30)
        self.check(SIXTEEN, said, list("a" * 60), 30)

    def test_what_is_told_of_two_hundred_events_may_be_handed_in(self):
        events = many_events(SIXTEEN, 200, names=False)
        _, said, written = go((SIXTEEN, SIXTEEN), events)
        told = explained(SIXTEEN, said, written)
        self.assertLessEqual(told[0], faults_in(events))
        self.check(SIXTEEN, said, written, told[0])

    def test_what_is_handed_in_may_be_one_list(self):
        both = list("abcab")
        self.assertEqual(explained(ROW, both, both)[0], 0)
        self.assertEqual(both, list("abcab"))

    def test_steps_grow_with_the_beginnings_alone(self):
        # All histories of sixty events are far too many to be gone through.
        said = list("ab" * 30)
        self.check(tuple("ab"), said, list("ba" * 30), explained(tuple("ab"), said, list("ba" * 30))[0])


class IsHistory(Refusing, unittest.TestCase):
    def test_every_list_of_two_events_of_three_letters(self):
        for events in product(nameless_of(ROW), repeat=2):
            _, said, written = model_go((ROW, ROW), events)
            self.assertIs(is_history(ROW, said, written, list(events)), True)
            self.assertIs(is_history(ROW, said[:1], written, list(events)), False)
            self.assertIs(is_history(ROW, said, written + ["a"], list(events)), False)
            self.assertIs(is_history(ROW, said + ["a"], written, list(events)), False)
            for other in product(nameless_of(ROW)[::2], repeat=2):
                told = model_go((ROW, ROW), other)[1:] == (said, written)
                self.assertIs(is_history(ROW, said, written, list(other)), told)

    def test_no_event(self):
        self.assertIs(is_history(ROW, [], [], []), True)
        for said, written in [("a", ""), ("", "a"), ("a", "a")]:
            self.assertIs(is_history(ROW, list(said), list(written), []), False)

    def histories(self):
        """Texts, and what is told of them."""
        for turn in range(4):
            row = shuffled(SIXTEEN, turn)
            said = list(shuffled(SIXTEEN * 4, turn))[:60]
            written = list(shuffled(SIXTEEN * 4, turn + 4))[:58]
            yield row, said, written, explained(row, said, written)[1]
        for written in ["acb", "ab", "aacb", "", "abcb"]:
            told = explained(ROW, list("acb"), list(written))
            if told is not None:
                yield ROW, list("acb"), list(written), told[1]

    def test_what_is_told_is_one(self):
        for row, said, written, events in self.histories():
            self.assertIs(is_history(row, said, written, events), True)

    def test_one_event_otherwise_or_out_or_twice(self):
        for row, said, written, events in self.histories():
            for at in range(len(events)):
                ahead, later = events[:at], events[at + 1:]
                things = [ahead + later, ahead + [events[at]] * 2 + later]
                things += [ahead + [event] + later for event in nameless_of(row)[::5] if event != events[at]]
                for thing in things:
                    told = model_go((row, row), thing)[1:] == (said, written)
                    self.assertIs(is_history(row, said, written, thing), told)
                self.assertIs(is_history(row, said, written, things[0]), False)
                self.assertIs(is_history(row, said, written, things[1]), False)

    def test_nearly_events(self):
        for row, said, written, events in self.histories():
            for at in range(0, len(events), 7):
                ahead, event, later = events[:at], events[at], events[at + 1:]
                for thing in [
                    list(event), event[0], event[:1], event + (0,), (event[0], True), (event[0], len(row)),
                    (event[0], -1), (event[0].upper(),) + event[1:], ("name", said[at]), ("name", "?"), ("as", 1, 1),
                    ("named", event[1], said[at]), None, event + event, [event], (event,),
                ]:
                    self.assertIs(is_history(row, said, written, ahead + [thing] + later), False, thing)
            self.assertIs(is_history(row, said, written, tuple(events)), False)
            self.assertIs(is_history(row, said, written, {"events": events}), False)
            self.assertIs(is_history(row, said, written, [events]), False)
            self.assertIs(is_history(row, said, written, events + [[]]), False)

    def test_a_truth_is_no_place(self):
        said, written = list("ac"), list("ac")
        self.assertIs(is_history(ROW, said, written, [("place", 1), ("place", 1)]), True)
        self.assertIs(is_history(ROW, said, written, [("place", True), ("place", 1)]), False)
        self.assertIs(is_history(ROW, ["c"], ["c"], [("place", 0)]), True)
        self.assertIs(is_history(ROW, ["c"], ["c"], [("place", False)]), False)

    def test_a_name_is_in_none_even_where_it_tells_and_writes_the_texts(self):
        self.assertEqual(go((ROW, ROW), [("name", "a")])[1:], (["a"], ["a"]))
        self.assertIs(is_history(ROW, ["a"], ["a"], [("name", "a")]), False)
        self.assertIs(is_history(ROW, ["a", "a"], ["a", "a"], [("place", 1), ("name", "a")]), False)

    def test_of_anything_it_is_told(self):
        for said, written in [([], []), (["a"], ["a"]), (["a", "b"], ["b"])]:
            for number, thing in enumerate(other_things()):
                self.assertIs(is_history(ROW, said, written, thing), False, number)
                self.assertIs(is_history(ROW, said, written, [thing]), False, number)
                self.assertIs(is_history(ROW, said, written, [("place", 1), thing]), False, number)
        row = tuple("abc")
        for thing in NO_EVENTS_OF_ABC:
            self.assertIs(is_history(row, ["a"], ["a"], [thing]), False, thing)
            self.assertIs(is_history(thing=[thing], written=["a"], said=["a"], row=row), False, thing)


class Places(unittest.TestCase):
    def test_each_of_the_other(self):
        for word in ["a", "ba", "cab"]:
            row = tuple(word)
            for many in range(5):
                for places in product(range(len(row)), repeat=many):
                    said = said_of(row, list(places))
                    events = [("place", at) for at in places]
                    self.assertEqual(said, model_go((row, row), events)[1])
                    self.assertEqual(places_of(row, said), list(places))
                    self.assertEqual([type(said), type(places_of(row, said))], [list, list])

    def test_sixteen_letters(self):
        for turn in range(10):
            row = shuffled(SIXTEEN, turn)
            said = list(shuffled(SIXTEEN * 20, turn))[:200]
            places = places_of(row, said)
            self.assertEqual(model_go((row, row), [("place", at) for at in places])[1], said)
            self.assertEqual(said_of(row, places), said)

    def test_letters_told_twice_on_end(self):
        self.assertEqual(places_of(ROW, list("aabbc")), [1, 0, 2, 0, 2])
        self.assertEqual(said_of(ROW, [1, 0, 2, 0, 2]), list("aabbc"))
        self.assertEqual(places_of(ROW, list("bbbb")), [2, 0, 0, 0])
        self.assertEqual(said_of(SIXTEEN, [15] * 17), list(SIXTEEN[::-1]) + ["p"])

    def test_none(self):
        for row in [("a",), ROW, SIXTEEN]:
            self.assertEqual(places_of(row, []), [])
            self.assertEqual(said_of(row, []), [])

    def test_rows_tell_by_the_same_places_just_the_exchanged_letters(self):
        row, other = tuple("cab"), tuple("xcz")
        exchanged = dict(zip(row, other))
        for many in range(4):
            for said in product(row, repeat=many):
                for told in product(other, repeat=many):
                    same = places_of(row, list(said)) == places_of(other, list(told))
                    self.assertIs(same, [exchanged[x] for x in said] == list(told))


class Refused(Refusing, unittest.TestCase):
    def test_no_row(self):
        for thing in NO_ROWS + other_things():
            self.refused(NoRow, explained, thing, [], [])
            self.refused(NoRow, explained, thing, ["a"], ["a"])
            self.refused(NoRow, is_history, thing, [], [], [])
            self.refused(NoRow, places_of, thing, [])
            self.refused(NoRow, said_of, thing, [])

    def test_no_letters(self):
        for asked in (explained, lambda row, said, written: is_history(row, said, written, [])):
            self.letters_refused(lambda word, thing: asked(tuple(word), thing, []))
            self.letters_refused(lambda word, thing: asked(tuple(word), [], thing))
            self.letters_refused(lambda word, thing: asked(tuple(word), thing, thing))
        self.letters_refused(lambda word, thing: places_of(tuple(word), thing))

    def test_no_places(self):
        for thing in NO_PLACES:
            self.refused(NoPlaces, said_of, ROW, thing)
        for thing in other_things():
            if type(thing) is not int or thing not in range(3):
                self.refused(NoPlaces, said_of, ROW, [thing])
                self.refused(NoPlaces, said_of, ROW, [0, thing])
            self.refused(NoPlaces, said_of, ROW, thing)
        self.refused(NoPlaces, said_of, ("a",), [1])
        self.refused(NoPlaces, said_of, SIXTEEN, [16])
        self.assertEqual(said_of(SIXTEEN, [15]), ["p"])

    def test_in_the_order_of_what_is_handed_in(self):
        for row in NO_ROWS + other_things():
            for thing in [None, (), "a", ["?"], [0], [99]]:
                self.refused(NoRow, explained, row, thing, thing)
                self.refused(NoRow, is_history, row, thing, thing, thing)
                self.refused(NoRow, places_of, row, thing)
                self.refused(NoRow, said_of, row, thing)

    def test_other_arguments_are_refused_whatever_the_thing_is(self):
        for thing in NO_EVENTS_OF_ABC + other_things():
            self.refused(NoRow, is_history, ("a", "a"), [], [], thing)
            self.refused(NoLetter, is_history, ROW, ["d"], [], thing)
            self.refused(NoLetter, is_history, ROW, [], "a", [thing])


if __name__ == "__main__":
    unittest.main()
