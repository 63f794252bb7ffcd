"""Point [4]: what is promised of the whole, for every history."""

import unittest

from tests.helpers import SIXTEEN, is_alike, kinds_of, many_events, model_go, model_reading, nameless_of, shuffled
from twonames.alone import alone, can_heal
from twonames.explained import explained, is_history, places_of, said_of
from twonames.healing import healing, heals, names_needed
from twonames.learning import chains, found_out, learn, name_all, namings
from twonames.made import made_by
from twonames.prices import needs, telling
from twonames.readings import fault_rings, leaves_none, left, reading, rings, wrong
from twonames.rounds import period, right_again, rounds
from twonames.rows import go
from twonames.texts import (
    read_events, read_pair, read_rings, read_row, show_events, show_pair, show_rings, show_row,
)


def histories():
    """Pairs of rows alike, and places and faults."""
    for turn in range(40):
        row = shuffled(SIXTEEN[:1 + turn % 16], turn)
        events = [shuffled(many_events(row, 200, names=False), turn)[at] for at in range(5 * turn)]
        yield (row, row), events


class Histories(unittest.TestCase):
    def test_whatever_happened_two_names_heal_it(self):
        for pair, events in histories():
            behind = go(pair, events)[0]
            healed = healing(behind)
            self.assertEqual(kinds_of(healed).count("name"), names_needed(behind))
            self.assertLessEqual(names_needed(behind), 2)
            self.assertIs(heals(pair, events + healed), True)
            self.assertTrue(is_alike(model_go(pair, events + healed)[0]))
            self.assertEqual((wrong(go(behind, healed)[0]), rings(go(behind, healed)[0])), ([], []))

    def test_with_names_between_two_more_heal_it_too(self):
        for turn in range(20):
            pair = shuffled(SIXTEEN, turn), shuffled(SIXTEEN, turn + 20)
            behind = go(pair, many_events(SIXTEEN, 10 * turn))[0]
            self.assertLessEqual(kinds_of(healing(behind)).count("name"), 2)
            self.assertIs(heals(behind, healing(behind)), True)

    def test_faults_are_told_ahead_and_multiply(self):
        for pair, events in histories():
            read = model_reading(pair)
            for ring in fault_rings(pair, events):
                was = dict(read)
                for one, other in zip(ring, ring[1:] + ring[:1]):
                    read[one] = was[other]
            behind = go(pair, events)[0]
            self.assertEqual(dict(reading(behind)), read)
            self.assertEqual(left(pair, events), rings(behind))
            self.assertIs(leaves_none(pair, events), is_alike(behind))

    def test_any_misreading_comes_of_two_faults_at_most(self):
        for pair, events in histories():
            wished = rings(go(pair, events)[0])
            many, fewer = made_by(pair[0], wished)
            self.assertLessEqual(many, 2)
            self.assertEqual(rings(go(pair, fewer)[0]), wished)
            self.assertEqual(left(pair, fewer), wished)

    def test_names_alone_heal_just_with_what_is_told(self):
        for pair, events in histories():
            behind = go(pair, events)[0]
            letters, lots = alone(behind)
            self.assertIs(can_heal(behind, letters), True)
            self.assertIs(heals(behind, [("name", x) for x in letters]), True)
            self.assertEqual(len(letters) + len(lots), len(pair[0]))
            for letter in letters:
                self.assertIs(can_heal(behind, [x for x in letters if x != letter]), False)

    def test_from_any_pair_on_all_is_heard_right(self):
        for turn, (pair, events) in enumerate(histories()):
            behind = go(pair, events)[0]
            text = list(shuffled(pair[0] * 3, turn))
            told = telling(behind, text)
            self.assertEqual(go(behind, told)[1:], (text, text))
            self.assertEqual([at for at, kind in enumerate(kinds_of(told)) if kind == "name"], needs(behind, text))

    def test_rounds_are_told_ahead(self):
        for pair, events in histories():
            first, length = period(pair, events)
            self.assertEqual(rounds(pair, events, first + 7 * length), rounds(pair, events, first))
            self.assertEqual(rounds(pair, events, 3), go(pair, events * 3)[0])
            behind = go(pair, events)[0]
            self.assertTrue(is_alike(rounds(behind, events, right_again(behind, events))))

    def test_texts_are_explained_and_read_back(self):
        for pair, events in histories():
            row = pair[0]
            _, said, written = go(pair, events)
            many, told = explained(row, said, written)
            self.assertLessEqual(many, sum(kind != "place" for kind in kinds_of(events)))
            again = read_events(show_events(told))
            self.assertEqual(again, told)
            for history in (events, told, again):
                self.assertIs(is_history(row, said, written, history), True)
            self.assertEqual(said_of(row, places_of(row, said)), said)


class Written(unittest.TestCase):
    def test_all_is_read_back_as_it_was(self):
        for pair, events in histories():
            behind, _, _ = go(pair, events)
            for show, read, thing in [
                (show_row, read_row, behind[0]), (show_pair, read_pair, behind), (show_events, read_events, events),
                (show_rings, read_rings, rings(behind)), (show_events, read_events, healing(behind)),
                (show_events, read_events, telling(behind, list(pair[0]))),
                (show_rings, read_rings, left(pair, events)),
            ]:
                self.assertEqual(read(show(thing)), thing)
                self.assertEqual(show(read(show(thing))), show(thing))

    def test_what_is_written_may_be_handed_on_event_by_event(self):
        for turn in range(20):
            pair = shuffled(SIXTEEN, turn), shuffled(SIXTEEN, turn + 20)
            events = many_events(SIXTEEN, 10 * turn)
            behind, said, written = go(pair, events)
            text, all_said, all_written = show_pair(pair), [], []
            for word in show_events(events).split():
                later, told, heard = go(read_pair(text), read_events(word))
                all_said += told
                all_written += heard
                text = show_pair(later)
            self.assertEqual((read_pair(text), all_said, all_written), (behind, said, written))

    def test_each_event_of_all_kinds(self):
        pair = (SIXTEEN, SIXTEEN[::-1])
        for event in nameless_of(SIXTEEN):
            self.assertEqual(go(read_pair(show_pair(pair)), read_events(show_events([event]))), go(pair, [event]))


class Learning(unittest.TestCase):
    def test_letters_learned_by_name_are_found_out_and_put_right(self):
        for turn in range(30):
            row = shuffled(SIXTEEN, turn)
            pair = ((), ())
            events = [("lostnew" if at % 5 == turn % 5 else "new", letter) for at, letter in enumerate(row)]
            pair = learn(pair, events)[0]
            self.assertEqual(chains(pair)[0], [])
            said = list(shuffled(row, turn + 30))
            places = [("place", at) for at in places_of(pair[0], said)]
            ends = [string[-1] for string in chains(pair)[1]]
            self.assertEqual(found_out(pair, places), min(said.index(letter) for letter in ends))
            behind = learn(pair, places)[0]
            self.assertEqual(chains(behind), chains(pair))
            wrong_ones = [x for string in chains(behind)[1] for x in string]
            self.assertEqual(namings(behind), len(wrong_ones))
            healed = learn(behind, name_all(behind, list(shuffled(wrong_ones, turn))))[0]
            self.assertEqual((chains(healed), namings(healed), healed[0] == healed[1]), (([], []), 0, True))

    def test_a_learning_pair_that_is_a_pair_is_told_of_as_one(self):
        for turn in range(20):
            pair = shuffled(SIXTEEN, turn), shuffled(SIXTEEN, turn + 20)
            events = [event for event in many_events(SIXTEEN, 100, names=False) if event[0] != "as"]
            self.assertEqual(learn(pair, events), go(pair, events))
            self.assertEqual(chains(pair), (rings(pair), []))
            self.assertIsNone(found_out(pair, events))


if __name__ == "__main__":
    unittest.main()
