"""Point [24]: what is told goes one place ahead, in each one's own row."""

import unittest
from itertools import permutations, product

from tests.helpers import (
    NO_PAIRS, NO_RINGS, NO_ROWS, SIXTEEN, Refusing, events_of, kinds_of, model_fewest, model_reading, model_rings,
    other_things, pair_of, pairs_of, shuffled, told_rings,
)
from twonames.ahead import ahead_go, ahead_made
from twonames.errors import NoEvents, NoPair, NoRings, NoRow
from twonames.readings import rings
from twonames.rows import go


def ahead_events_of(row, names=True):
    kinds = ("place", "lost", "twice", "name") if names else ("place", "lost", "twice")
    return [event for event in events_of(row) if event[0] in kinds]


def step(row, place):
    """The letter at a place of a list of letters, which takes it one place ahead."""
    letter = row.pop(place)
    row.insert(max(0, place - 1), letter)
    return letter


def model_ahead(pair, events):
    told, heard = list(pair[0]), list(pair[1])
    said, written = [], []
    for kind, thing in events:
        if kind == "name":
            said.append(step(told, told.index(thing)))
            written.append(step(heard, heard.index(thing)))
            continue
        said.append(step(told, thing))
        if kind in ("place", "twice"):
            written.append(step(heard, thing))
        if kind == "twice":
            written.append(step(heard, thing))
    return (tuple(told), tuple(heard)), said, written


def many_ahead(row, many, turn=1):
    return list(shuffled(ahead_events_of(row) * (1 + many // 20), turn))[:many]


class Go(unittest.TestCase):
    def check(self, pair, events):
        told = ahead_go(pair, events)
        self.assertEqual(told, model_ahead(pair, events), (pair, events))
        self.assertEqual([type(told)] + [type(part) for part in told], [tuple, tuple, list, list])
        self.assertEqual([type(row) for row in told[0]], [tuple, tuple])

    def test_every_list_of_two_events_of_three_letters(self):
        for pair in pairs_of("abc"):
            for event in ahead_events_of("abc"):
                self.check(pair, [event])
                for other in ahead_events_of("abc"):
                    self.check(pair, [event, other])

    def test_longer_lists(self):
        for turn in range(60):
            row = SIXTEEN[:1 + turn % 16]
            self.check((shuffled(row, turn), shuffled(row, turn + 60)), many_ahead(row, 5 * turn, turn))
        self.check((SIXTEEN, SIXTEEN[::-1]), many_ahead(SIXTEEN, 200))

    def test_no_event(self):
        for pair in pairs_of("abc") + [pair_of("a", "a"), (SIXTEEN, SIXTEEN[::-1])]:
            self.assertEqual(ahead_go(pair, []), (pair, [], []))

    def test_each_kind_by_itself(self):
        pair = pair_of("abcd", "dbac")
        for event, told, heard, said, written in [
            (("place", 0), "abcd", "dbac", "a", "d"), (("place", 1), "bacd", "bdac", "b", "b"),
            (("place", 2), "acbd", "dabc", "c", "a"), (("place", 3), "abdc", "dbca", "d", "c"),
            (("name", "a"), "abcd", "dabc", "a", "a"), (("name", "b"), "bacd", "bdac", "b", "b"),
            (("name", "c"), "acbd", "dbca", "c", "c"), (("name", "d"), "abdc", "dbac", "d", "d"),
            (("lost", 0), "abcd", "dbac", "a", ""), (("lost", 1), "bacd", "dbac", "b", ""),
            (("lost", 3), "abdc", "dbac", "d", ""),
            (("twice", 0), "abcd", "dbac", "a", "dd"), (("twice", 1), "bacd", "dbac", "b", "bd"),
            (("twice", 2), "acbd", "dbac", "c", "ab"), (("twice", 3), "abdc", "dbac", "d", "ca"),
        ]:
            self.assertEqual(ahead_go(pair, [event]), (pair_of(told, heard), list(said), list(written)), event)

    def test_one_letter(self):
        pair = pair_of("q", "q")
        for event, written in [(("place", 0), "q"), (("name", "q"), "q"), (("lost", 0), ""), (("twice", 0), "qq")]:
            self.assertEqual(ahead_go(pair, [event]), (pair, ["q"], list(written)))

    def test_what_is_in_front_stays(self):
        for pair in pairs_of("abc") + [(SIXTEEN, SIXTEEN[::-1])]:
            self.assertEqual(ahead_go(pair, [("place", 0)] * 3)[0], pair)
            self.assertEqual(ahead_go(pair, [("name", pair[0][0])])[0][0], pair[0])

    def test_names_wherever_they_stand(self):
        pair = SIXTEEN, SIXTEEN[::-1]
        for at, letter in enumerate(SIXTEEN):
            (told, heard), said, written = ahead_go(pair, [("name", letter)])
            self.assertEqual((said, written), ([letter], [letter]))
            self.assertEqual(told.index(letter), max(0, at - 1))
            self.assertEqual(heard.index(letter), max(0, 14 - at))
            self.assertEqual([sorted(told), sorted(heard)], [list(SIXTEEN)] * 2)

    def test_it_is_told_otherwise_than_by_go(self):
        pair = pair_of("abc", "bca")
        self.assertNotEqual(ahead_go(pair, [("place", 2)]), go(pair, [("place", 2)]))
        self.assertEqual(ahead_go(pair, [("place", 1)]), go(pair, [("place", 1)]))


class Faults(unittest.TestCase):
    def test_places_change_no_reading(self):
        for pair in pairs_of("abc"):
            for places in product(range(3), repeat=3):
                behind, said, written = ahead_go(pair, [("place", at) for at in places])
                read = model_reading(pair)
                self.assertEqual(model_reading(behind), read)
                self.assertEqual([read[x] for x in said], written)

    def test_each_fault_exchanges_the_readings_of_two_letters_or_none(self):
        for pair in pairs_of("abcd")[::5] + [(SIXTEEN, SIXTEEN[3:] + SIXTEEN[:3])]:
            was = model_reading(pair)
            for event in ahead_events_of(pair[0], names=False):
                now = model_reading(ahead_go(pair, [event])[0])
                kind, place = event
                if kind == "place" or place == 0:
                    self.assertEqual(now, was, event)
                    continue
                one, other = pair[0][place - 1:place + 1]
                self.assertEqual(now, {**was, one: was[other], other: was[one]}, event)


class Made(unittest.TestCase):
    def check(self, row, wished):
        told = ahead_made(row, wished)
        self.assertEqual([type(told), len(told), type(told[0]), type(told[1])], [tuple, 2, int, list])
        many = sum(map(len, wished)) - len(wished)
        self.assertEqual(told[0], many, (row, wished))
        self.assertEqual(sum(kind != "place" for kind in kinds_of(told[1])), many)
        for event in told[1]:
            self.assertIn(event, ahead_events_of(row, names=False))
        for behind in [ahead_go((row, row), told[1])[0], model_ahead((row, row), told[1])[0]]:
            self.assertEqual(model_rings(model_reading(behind)), wished, (row, told))
            self.assertEqual(rings(behind), wished)

    def test_no_ring(self):
        for row in ["a", "z", "ba", "cab", SIXTEEN, SIXTEEN[::-1]]:
            self.check(tuple(row), [])

    def test_every_list_of_rings_of_up_to_five_letters(self):
        for many in range(1, 6):
            for turn, order in enumerate(permutations("xbcqe"[:many])):
                self.check(shuffled("xbcqe"[:many], turn), model_rings(dict(zip("xbcqe", order))))

    def test_every_row_of_four_letters(self):
        for row in permutations("abcd"):
            for words in ["ab", "acdb", "bd", "bcd", "ac bd", "ad bc", "abcd"]:
                self.check(row, told_rings(words))

    def test_sixteen_letters(self):
        for words in ["ap", "hi", "abcdefghijklmnop", "aponmlkjihgfedcb", "ab cd ef gh ij kl mn op",
                      "ap bo cn dm el fk gj hi", "abcdefgh ijklmnop", "ai bphcogdnf ejmkl"]:
            for row in [SIXTEEN, SIXTEEN[::-1], SIXTEEN[5:] + SIXTEEN[:5]] + [shuffled(SIXTEEN, t) for t in range(5)]:
                self.check(row, told_rings(words))
        for turn in range(40):
            self.check(shuffled(SIXTEEN, turn + 100), model_rings(dict(zip(SIXTEEN, shuffled(SIXTEEN, turn)))))

    def test_no_fewer_faults_do(self):
        for row in [tuple("dbca"), tuple("zx"), tuple("bca")]:
            faults = [event for event in ahead_events_of(row, names=False) if event[0] != "place"]
            for pair, many in model_fewest(row, model_ahead, faults).items():
                self.assertEqual(ahead_made(row, model_rings(model_reading(pair)))[0], many, pair)


class Refused(Refusing, unittest.TestCase):
    def test_no_pair(self):
        for thing in NO_PAIRS + other_things():
            self.refused(NoPair, ahead_go, thing, [])
            self.refused(NoPair, ahead_go, thing, [("place", 0)])

    def test_no_events(self):
        self.events_refused(lambda thing: ahead_go(pair_of("abc", "bca"), thing))

    def test_as_is_refused(self):
        for pair in [pair_of("abc", "bca"), (SIXTEEN, SIXTEEN)]:
            for events in [[("as", 0, 1)], [("as", 1, 0)], [("place", 1), ("as", 2, 0)], [("as", 0, 2), ("lost", 1)]]:
                go(pair, events)
                self.refused(NoEvents, ahead_go, pair, events)
            self.refused(NoEvents, ahead_go, pair, many_ahead(pair[0], 50) + [("as", 2, 1)])

    def test_no_row(self):
        for thing in NO_ROWS + other_things():
            self.refused(NoRow, ahead_made, thing, [])
            self.refused(NoRow, ahead_made, thing, told_rings("ab"))

    def test_no_rings(self):
        for thing in NO_RINGS + other_things():
            self.refused(NoRings, ahead_made, tuple("ebcda"), thing)
        for thing in other_things():
            for wished in ([thing], [("a", "b"), thing], [("a", thing)]):
                self.refused(NoRings, ahead_made, tuple("ebcda"), wished)

    def test_in_the_order_of_what_is_handed_in(self):
        for thing in NO_PAIRS + NO_ROWS + other_things():
            for other in [None, (), [("place", 99)], [("as", 0, 1)], told_rings("ba"), [None]]:
                self.refused(NoPair, ahead_go, thing, other)
        for thing in NO_ROWS + other_things():
            for other in [None, (), told_rings("a"), told_rings("ba"), [None]]:
                self.refused(NoRow, ahead_made, thing, other)


if __name__ == "__main__":
    unittest.main()
