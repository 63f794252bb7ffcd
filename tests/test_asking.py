"""Point [2]: what holds of every function that asks."""

import copy
import inspect
import sys
import unittest

from tests.helpers import SIXTEEN, many_events, other_things, pair_of
from twonames import readings, rows

INTERFACE = {
    rows: {"is_row": ["thing"], "is_pair": ["thing"], "is_event": ["pair", "thing"], "go": ["pair", "events"]},
    readings: {
        "reading": ["pair"], "wrong": ["pair"], "rings": ["pair"],
        "fault_rings": ["pair", "events"], "left": ["pair", "events"], "leaves_none": ["pair", "events"],
    },
}
ASKED = [(getattr(module, name), names) for module, told in INTERFACE.items() for name, names in told.items()]


def handed_in(names):
    """What is handed in, made anew at each call, by the names of the arguments."""
    pair = pair_of("cabed", "adbec")
    things = {
        "pair": pair,
        "events": [("place", 2), ("lost", 3), ("as", 1, 4), ("twice", 2), ("place", 4), ("lost", 0)],
        "thing": pair if names == ["thing"] else ("as", 1, 4),
    }
    return {name: things[name] for name in names}


def lists_within(thing):
    """Every list within a thing that is told, itself among them."""
    found = [thing] if isinstance(thing, list) else []
    if isinstance(thing, (list, tuple)):
        for part in thing:
            found += lists_within(part)
    return found


class Names(unittest.TestCase):
    def test_each_function_stands_in_its_file_with_its_arguments(self):
        for asked, names in ASKED:
            self.assertEqual(list(inspect.signature(asked).parameters), names, asked)
        for module, told in INTERFACE.items():
            for name in told:
                self.assertEqual(getattr(module, name).__module__, module.__name__)

    def test_by_names_in_any_order_the_same_is_told_as_by_place(self):
        for asked, names in ASKED:
            by_place = asked(*handed_in(names).values())
            self.assertEqual(asked(**handed_in(names)), by_place)
            self.assertEqual(asked(**{name: handed_in(names)[name] for name in reversed(names)}), by_place)

    def test_none_may_be_left_out(self):
        for asked, names in ASKED:
            with self.assertRaises(TypeError):
                asked(*list(handed_in(names).values())[1:])


class NothingIsChanged(unittest.TestCase):
    def test_what_was_handed_in_is_as_it_was(self):
        for asked, names in ASKED:
            things = handed_in(names)
            kept = copy.deepcopy(things)
            asked(**things)
            self.assertEqual(things, kept, asked)

    def test_what_is_refused_is_as_it_was(self):
        for bad in [("name", "z"), ("place", 9), ("name", "a")]:
            for asked in (rows.go, readings.fault_rings, readings.left, readings.leaves_none):
                events = [("place", 1), bad]
                try:
                    asked(pair_of("abc", "bca"), events)
                except ValueError:
                    pass
                self.assertEqual(events, [("place", 1), bad])

    def test_what_is_told_may_be_changed(self):
        for asked, names in ASKED:
            things = handed_in(names)
            told = asked(**things)
            kept = copy.deepcopy(told)
            again = asked(**things)
            for part in lists_within(told):
                part.append("more")
                part[0] = None
            self.assertEqual(again, kept, asked)
            self.assertEqual(asked(**things), kept, asked)
            self.assertEqual(things, handed_in(names), asked)

    def test_no_two_lists_are_one(self):
        for asked, names in ASKED:
            things = handed_in(names)
            found = lists_within(asked(**things)) + lists_within(asked(**things)) + lists_within(list(things.values()))
            self.assertEqual(len({id(part) for part in found}), len(found), asked)
        for events in [[], [("name", "a")]]:
            _, said, written = rows.go(pair_of("ab", "ab"), events)
            self.assertIsNot(said, written)

    def test_a_list_that_was_handed_in_may_be_changed_later(self):
        for asked, names in ASKED:
            if "events" in names:
                things = handed_in(names)
                told = asked(**things)
                kept = copy.deepcopy(told)
                things["events"].clear()
                self.assertEqual(told, kept, asked)

    def test_the_same_asking_tells_the_same(self):
        for asked, names in ASKED:
            told = [asked(**handed_in(names)) for _ in range(3)]
            self.assertEqual(told[1:], told[:-1], asked)


class Kinds(unittest.TestCase):
    def test_each_tells_the_kind_that_the_interface_lists(self):
        for asked, names in ASKED:
            kind = {"go": tuple, "leaves_none": bool}.get(asked.__name__, list)
            if asked.__name__.startswith("is_"):
                kind = bool
            self.assertIs(type(asked(**handed_in(names))), kind, asked)

    def test_whether_something_is_told_as_true_or_false_of_anything(self):
        pair = pair_of("abc", "cab")
        for thing in other_things():
            for told in (rows.is_row(thing), rows.is_pair(thing), rows.is_event(pair, thing)):
                self.assertIs(told, False)


class Steps(unittest.TestCase):
    def steps(self, letters, many):
        """How many lines of the program all functions together go through."""
        row = SIXTEEN[:letters]
        events = many_events(row, many, names=False)
        things = {"pair": (row, row[1:] + row[:1]), "events": events, "thing": events[0]}
        lines = []

        def trace(frame, what, _):
            if what == "line" and "twonames" in frame.f_globals["__name__"]:
                lines.append(None)
            return trace

        before = sys.gettrace()
        sys.settrace(trace)
        try:
            for asked, names in ASKED:
                asked(**{name: things[name] for name in names})
        finally:
            sys.settrace(before)
        return len(lines)

    def test_twice_as_many_events_take_a_few_times_as_many_steps(self):
        for many in [50, 100, 200]:
            self.assertLess(self.steps(16, 2 * many), 5 * self.steps(16, many))

    def test_twice_as_many_letters_take_a_few_times_as_many_steps(self):
        for letters in [2, 4, 8]:
            self.assertLess(self.steps(2 * letters, 200), 9 * self.steps(letters, 200))

    def test_far_more_events_than_two_hundred_are_told_of(self):
        pair = SIXTEEN, SIXTEEN[7:] + SIXTEEN[:7]
        events = many_events(SIXTEEN, 20000, names=False)
        things = {"pair": pair, "events": events, "thing": events[0]}
        for asked, names in ASKED:
            asked(**{name: things[name] for name in names})


if __name__ == "__main__":
    unittest.main()
