"""Points [8], [9] and [10]: readings, and what faults change of them."""

import unittest
from itertools import product

from tests.helpers import (
    NO_PAIRS, SIXTEEN, Refusing, events_of, faults_of, many_events, model_go, model_reading, model_rings, nameless_of,
    other_things, pair_of, pairs_of, told_rings,
)
from twonames.errors import NoEvents, NoPair
from twonames.readings import fault_rings, leaves_none, left, reading, rings, wrong
from twonames.rows import go

WITH_EVENTS = (fault_rings, left, leaves_none)


def model_left(pair, events):
    was = model_reading(pair)
    now = model_reading(model_go(pair, events)[0])
    return model_rings({x: next(y for y in was if was[y] == now[x]) for x in now})


class Readings(unittest.TestCase):
    def test_a_right_pair(self):
        for row in ["a", "cab", "hgfedcba", SIXTEEN]:
            pair = pair_of(row, row)
            self.assertEqual(reading(pair), [(x, x) for x in sorted(row)])
            self.assertEqual(wrong(pair), [])
            self.assertEqual(rings(pair), [])

    def test_one_ring(self):
        pair = pair_of("cab", "bca")
        self.assertEqual(reading(pair), [("a", "c"), ("b", "a"), ("c", "b")])
        self.assertEqual(wrong(pair), ["a", "b", "c"])
        self.assertEqual(rings(pair), told_rings("acb"))

    def test_one_ring_beside_right_letters(self):
        pair = pair_of("abcde", "adcbe")
        self.assertEqual(reading(pair), [("a", "a"), ("b", "d"), ("c", "c"), ("d", "b"), ("e", "e")])
        self.assertEqual(wrong(pair), ["b", "d"])
        self.assertEqual(rings(pair), told_rings("bd"))

    def test_several_rings(self):
        pair = pair_of("fedcbazyx", "dfebcazxy")
        self.assertEqual(rings(pair), told_rings("bc def xy"))
        self.assertEqual(wrong(pair), list("bcdefxy"))
        self.assertEqual(rings(pair_of("abcdef", "badcfe")), told_rings("ab cd ef"))

    def test_sixteen_letters(self):
        pair = SIXTEEN, SIXTEEN[1:] + SIXTEEN[:1]
        self.assertEqual(rings(pair), [SIXTEEN])
        self.assertEqual(wrong(pair), list(SIXTEEN))
        self.assertEqual(rings((SIXTEEN, SIXTEEN[::-1])), told_rings("ap bo cn dm el fk gj hi"))

    def test_every_pair_of_up_to_four_letters(self):
        for letters in ["a", "bx", "abc", "cdxz"]:
            for pair in pairs_of(letters):
                read = model_reading(pair)
                self.assertEqual(reading(pair), [(x, read[x]) for x in letters])
                self.assertEqual(wrong(pair), [x for x in letters if read[x] != x])
                self.assertEqual(rings(pair), model_rings(read))

    def test_rings_are_tuples_of_texts_in_a_list(self):
        told = rings(pair_of("abcd", "badc"))
        self.assertIs(type(told), list)
        self.assertEqual([type(ring) for ring in told], [tuple, tuple])
        self.assertEqual([type(part) for part in reading(pair_of("ab", "ba"))], [tuple, tuple])

    def test_what_is_told_by_places_is_written_as_it_is_read(self):
        for pair in pairs_of("abc"):
            read = dict(reading(pair))
            for places in product(range(3), repeat=3):
                behind, said, written = go(pair, [("place", p) for p in places])
                self.assertEqual(written, [read[x] for x in said])

    def test_what_is_no_pair_is_refused(self):
        for asked in (reading, wrong, rings):
            for number, thing in enumerate(NO_PAIRS + other_things()):
                with self.assertRaises(NoPair, msg=(asked, number)) as caught:
                    asked(thing)
                self.assertIs(type(caught.exception), NoPair)


class Faults(unittest.TestCase):
    def test_places_change_no_reading(self):
        for pair in pairs_of("abc"):
            for places in product(range(3), repeat=3):
                events = [("place", p) for p in places]
                self.assertEqual(reading(go(pair, events)[0]), reading(pair))
                self.assertEqual(fault_rings(pair, events), [])
                self.assertEqual(left(pair, events), [])
                self.assertIs(leaves_none(pair, events), True)

    def test_the_ring_of_each_kind(self):
        pair = pair_of("dbace", "abcde")
        for event, ring in [
            (("lost", 0), ""), (("lost", 1), "bd"), (("lost", 2), "adb"), (("lost", 4), "acedb"),
            (("twice", 0), ""), (("twice", 1), "bd"), (("twice", 2), "abd"), (("twice", 4), "abdec"),
            (("as", 3, 1), "bac"), (("as", 1, 3), "bca"), (("as", 0, 1), "bd"), (("as", 1, 0), "bd"),
            (("as", 4, 0), "acedb"), (("as", 0, 4), "abdec"), (("as", 2, 3), "ac"), (("as", 4, 2), "ace"),
        ]:
            at = ring.find(min(ring)) if ring else 0
            self.assertEqual(fault_rings(pair, [event]), [tuple(ring[at:] + ring[:at])], event)

    def test_each_ring_tells_what_the_fault_changes(self):
        for letters in ["a", "ab", "abc", "abcd"]:
            for pair in pairs_of(letters)[::5]:
                was = dict(reading(pair))
                for event in faults_of(letters):
                    ring = fault_rings(pair, [event])[0]
                    now = dict(reading(model_go(pair, [event])[0]))
                    turned = {x: ring[(at + 1) % len(ring)] for at, x in enumerate(ring)}
                    self.assertEqual(now, {x: was[turned.get(x, x)] for x in letters}, (pair, event))
                    self.assertNotEqual(len(ring), 1)
                    self.assertEqual(ring[:1], tuple(sorted(ring)[:1]))

    def test_place_nought_changes_nothing(self):
        pair = pair_of("cab", "abc")
        self.assertEqual(fault_rings(pair, [("lost", 0), ("place", 2), ("twice", 0)]), [(), ()])
        self.assertIs(leaves_none(pair, [("lost", 0), ("place", 2), ("twice", 0)]), True)
        self.assertEqual(fault_rings(pair_of("a", "a"), [("lost", 0), ("twice", 0)]), [(), ()])

    def test_each_ring_is_told_by_the_row_ahead_of_its_fault(self):
        pair = pair_of("abc", "abc")
        # The teller's row is told to be abc, cab, acb, cab and bca, ahead of each.
        events = [("place", 2), ("lost", 1), ("twice", 1), ("as", 2, 0), ("place", 1)]
        self.assertEqual(fault_rings(pair, events), told_rings("ac ac abc"))

    def test_twice_is_told_by_the_row_ahead_of_the_whole_event(self):
        # Behind its first half the row is c a b, from behind: b a c.
        self.assertEqual(fault_rings(pair_of("abc", "abc"), [("twice", 2)]), [("a", "c", "b")])
        self.assertEqual(fault_rings(pair_of("abcd", "abcd"), [("twice", 2)]), [("a", "c", "b")])
        self.assertEqual(reading(go(pair_of("abc", "abc"), [("twice", 2)])[0]), [("a", "c"), ("b", "a"), ("c", "b")])

    def test_the_hearers_row_has_no_part_in_the_rings(self):
        events = many_events("abc", 30, names=False)
        for told in ["abc", "cab"]:
            all_told = [fault_rings(pair_of(told, heard), events) for heard in ["abc", "bac", "cab"]]
            self.assertEqual(all_told[1:], all_told[:-1])

    def test_one_ring_for_each_fault_in_order(self):
        pair = SIXTEEN, SIXTEEN[5:] + SIXTEEN[:5]
        events = many_events(SIXTEEN, 200, names=False)
        faults = [at for at, event in enumerate(events) if event[0] != "place"]
        told = fault_rings(pair, events)
        self.assertEqual(len(told), len(faults))
        for ring, at in zip(told, faults):
            ahead = model_go(pair, events[:at])[0]
            self.assertEqual([ring] if ring else [], model_left(ahead, [events[at]]))


class Left(unittest.TestCase):
    def test_no_event_leaves_none(self):
        for pair in pairs_of("abc"):
            self.assertEqual(left(pair, []), [])
            self.assertIs(leaves_none(pair, []), True)

    def test_one_fault_leaves_its_ring(self):
        for pair in pairs_of("abc"):
            for event in faults_of("abc"):
                ring = fault_rings(pair, [event])[0]
                self.assertEqual(left(pair, [event]), [ring] if ring else [])
                self.assertIs(leaves_none(pair, [event]), not ring)

    def test_what_is_left_is_what_changed_and_not_what_is_wrong(self):
        wrong_pair = pair_of("abcd", "badc")
        self.assertEqual(left(wrong_pair, [("place", 3)]), [])
        self.assertEqual(left(wrong_pair, [("as", 0, 1)]), told_rings("ab"))
        self.assertEqual(rings(go(wrong_pair, [("as", 0, 1)])[0]), told_rings("cd"))

    def test_several_faults_are_put_together(self):
        pair = pair_of("abcd", "abcd")
        self.assertEqual(left(pair, [("as", 0, 1), ("as", 2, 3)]), told_rings("ab cd"))
        # The first turns a b c round, the second c a b, which is the same ring: twice round is its other way.
        self.assertEqual(left(pair, [("lost", 2), ("lost", 2)]), told_rings("acb"))

    def test_every_list_of_two_events_of_three_letters(self):
        for pair in pairs_of("abc"):
            for events in product(nameless_of("abc"), repeat=2):
                told = left(pair, list(events))
                self.assertEqual(told, model_left(pair, events), (pair, events))
                self.assertIs(leaves_none(pair, list(events)), told == [])

    def test_sixteen_letters_and_two_hundred_events(self):
        pair = SIXTEEN, SIXTEEN[::-1]
        for many in [1, 2, 3, 50, 200]:
            events = many_events(SIXTEEN, many, names=False)
            self.assertEqual(left(pair, events), model_left(pair, events))
            self.assertIs(leaves_none(pair, events), model_left(pair, events) == [])

    def test_lost_and_later_twice(self):
        """The words of (10), of every row of four letters and up to two places between."""
        for told in ["abcd", "dbca"]:
            pair = pair_of(told, "cadb")
            between = [()] + list(product(range(4), repeat=1)) + list(product(range(4), repeat=2))
            for p, q, places in product(range(4), range(4), between):
                events = [("lost", p)] + [("place", at) for at in places]
                first = pair[0][:p + 1]
                later = go(pair, events)[0][0][:p + 1]
                one_order = any(first == later[at:] + later[:at] for at in range(p + 1))
                said = p == q == 0 or (p == q and one_order)
                self.assertIs(leaves_none(pair, events + [("twice", q)]), said, (told, events, q))

    def test_lost_and_twice_by_example(self):
        pair = pair_of("abcd", "bacd")
        self.assertIs(leaves_none(pair, [("lost", 0), ("place", 3), ("twice", 0)]), True)
        self.assertIs(leaves_none(pair, [("lost", 2), ("twice", 2)]), True)
        self.assertIs(leaves_none(pair, [("lost", 2), ("place", 2), ("twice", 2)]), True)
        self.assertIs(leaves_none(pair, [("lost", 2), ("place", 1), ("twice", 2)]), False)
        self.assertIs(leaves_none(pair, [("lost", 2), ("place", 3), ("twice", 2)]), False)
        self.assertIs(leaves_none(pair, [("lost", 2), ("twice", 1)]), False)
        self.assertIs(leaves_none(pair, [("lost", 0), ("twice", 1)]), False)


class Refused(Refusing, unittest.TestCase):
    def test_a_list_with_a_name_in_it(self):
        pair = pair_of("abc", "bca")
        for asked in WITH_EVENTS:
            for events in [
                [("name", "a")], [("place", 0), ("name", "b")], [("name", "c"), ("lost", 1)],
                [("lost", 1), ("name", "a"), ("twice", 2)], many_events("abc", 100) + [("name", "a")],
            ]:
                self.refused(NoEvents, asked, pair, events)

    def test_what_is_no_list_of_events_of_the_pair(self):
        pair = pair_of("abc", "bca")
        for asked in WITH_EVENTS:
            for thing in [
                ("place", 3), ("lost", 3), ("twice", -1), ("lost", True), ("as", 1, 1), ("as", 0, 3), ("name", "d"),
                ["lost", 0], ("lost",), ("lost", 0, 1), ("found", 0),
            ] + other_things():
                self.refused(NoEvents, asked, pair, [thing])
                self.refused(NoEvents, asked, pair, [("lost", 1), thing])
            for thing in [(("lost", 1),), ("lost", 1), "lost", {}] + other_things():
                self.refused(NoEvents, asked, pair, thing)

    def test_what_is_no_pair(self):
        for asked in WITH_EVENTS:
            for pair in NO_PAIRS + other_things():
                self.refused(NoPair, asked, pair, [])
                self.refused(NoPair, asked, pair, [("lost", 0)])

    def test_no_pair_goes_ahead_of_no_events(self):
        for asked in WITH_EVENTS:
            for pair in NO_PAIRS + other_things():
                for events in [None, (), [("place", 99)], [("name", "a")], [None]]:
                    self.refused(NoPair, asked, pair, events)

    def test_events_of_all_kinds_but_names_are_told_of(self):
        pair = pair_of("abc", "bca")
        for event in events_of("abc"):
            if event[0] != "name":
                fault_rings(pair, [event])


if __name__ == "__main__":
    unittest.main()
