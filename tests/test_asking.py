"""Point [2]: what holds of every function that asks."""

import copy
import inspect
import sys
import unittest

from tests.helpers import SIXTEEN, many_events, other_things, pair_of, shuffled, turned
from twonames import alone, healing, made, onering, readings, rows

INTERFACE = {
    rows: {"is_row": ["thing"], "is_pair": ["thing"], "is_event": ["pair", "thing"], "go": ["pair", "events"]},
    readings: {
        "reading": ["pair"], "wrong": ["pair"], "rings": ["pair"],
        "fault_rings": ["pair", "events"], "left": ["pair", "events"], "leaves_none": ["pair", "events"],
    },
    made: {"made_by": ["row", "wished"], "even": ["pair"]},
    alone: {"alone": ["pair"], "can_heal": ["pair", "letters"]},
    healing: {
        "names_needed": ["pair"], "healing": ["pair"], "heals": ["pair", "events"], "one_name": ["pair", "letter"],
    },
    onering: {"fewest_places": ["pair"], "shortest_healing": ["pair"]},
}
ASKED = [(getattr(module, name), names) for module, told in INTERFACE.items() for name, names in told.items()]
KINDS = {
    "is_row": bool, "is_pair": bool, "is_event": bool, "go": tuple, "leaves_none": bool, "made_by": tuple, "even": bool,
    "alone": tuple, "can_heal": bool, "names_needed": int, "heals": bool, "one_name": tuple, "fewest_places": int,
}


def handed_in(names):
    """What is handed in, made anew at each call, by the names of the arguments."""
    # Of just one ring: a, d, c.
    pair = pair_of("cabed", "adbec")
    things = {
        "pair": pair,
        "row": pair[0],
        "wished": [tuple("ad"), tuple("bec")],
        "letters": ["d", "a"],
        "letter": "d",
        "events": [("place", 2), ("lost", 3), ("as", 1, 4), ("twice", 2), ("place", 4), ("lost", 0)],
        "thing": pair if names == ["thing"] else ("as", 1, 4),
    }
    return {name: things[name] for name in names}


def lists_within(thing):
    """Every list within a thing that is told, itself among them."""
    found = [thing] if isinstance(thing, list) else []
    if isinstance(thing, (list, tuple)):
        for part in thing:
            found += lists_within(part)
    return found


def many_things(letters, many):
    """What is handed in: a row of so many letters, and lists of so many events and letters."""
    row = SIXTEEN[:letters]
    events = many_events(row, many, names=False)
    return {
        "pair": turned(row, shuffled(row, 1)),
        "row": row, "wished": [row[at:at + 2] for at in range(0, letters, 2)], "events": events, "thing": events[0],
        "letters": list(row * many)[:many], "letter": row[-1],
    }


class Names(unittest.TestCase):
    def test_each_function_stands_in_its_file_with_its_arguments(self):
        for asked, names in ASKED:
            self.assertEqual(list(inspect.signature(asked).parameters), names, asked)
        for module, told in INTERFACE.items():
            for name in told:
                self.assertEqual(getattr(module, name).__module__, module.__name__)

    def test_by_names_in_any_order_the_same_is_told_as_by_place(self):
        for asked, names in ASKED:
            by_place = asked(*handed_in(names).values())
            self.assertEqual(asked(**handed_in(names)), by_place)
            self.assertEqual(asked(**{name: handed_in(names)[name] for name in reversed(names)}), by_place)

    def test_none_may_be_left_out(self):
        for asked, names in ASKED:
            with self.assertRaises(TypeError):
                asked(*list(handed_in(names).values())[1:])


class NothingIsChanged(unittest.TestCase):
    def test_what_was_handed_in_is_as_it_was(self):
        for asked, names in ASKED:
            things = handed_in(names)
            kept = copy.deepcopy(things)
            asked(**things)
            self.assertEqual(things, kept, asked)

    def test_what_is_refused_is_as_it_was(self):
        for asked, names in ASKED:
            for bad in [("name", "z"), ("place", 9), ("name", "a"), "z", ("b", "a"), ["a"]]:
                things = handed_in(names)
                for thing in things.values():
                    if isinstance(thing, list):
                        thing.append(bad)
                kept = copy.deepcopy(things)
                try:
                    asked(**things)
                except ValueError:
                    pass
                self.assertEqual(things, kept, (asked, bad))

    def test_what_is_told_may_be_changed(self):
        for asked, names in ASKED:
            things = handed_in(names)
            told = asked(**things)
            kept = copy.deepcopy(told)
            again = asked(**things)
            for part in lists_within(told):
                part.append("more")
                part[0] = None
            self.assertEqual(again, kept, asked)
            self.assertEqual(asked(**things), kept, asked)
            self.assertEqual(things, handed_in(names), asked)

    def test_no_two_lists_are_one(self):
        for asked, names in ASKED:
            things = handed_in(names)
            found = lists_within(asked(**things)) + lists_within(asked(**things)) + lists_within(list(things.values()))
            self.assertEqual(len({id(part) for part in found}), len(found), asked)
        for events in [[], [("name", "a")]]:
            _, said, written = rows.go(pair_of("ab", "ab"), events)
            self.assertIsNot(said, written)
        wished = []
        self.assertIsNot(made.made_by(("a", "b"), wished)[1], wished)
        self.assertIsNot(made.made_by(("a", "b"), wished)[1], made.made_by(("a", "b"), wished)[1])
        self.assertIsNot(healing.healing(pair_of("ab", "ab")), healing.healing(pair_of("ab", "ab")))

    def test_a_list_that_was_handed_in_may_be_changed_later(self):
        for asked, names in ASKED:
            things = handed_in(names)
            told = asked(**things)
            kept = copy.deepcopy(told)
            for thing in things.values():
                if isinstance(thing, list):
                    thing.clear()
            self.assertEqual(told, kept, asked)

    def test_the_same_asking_tells_the_same(self):
        for asked, names in ASKED:
            told = [asked(**handed_in(names)) for _ in range(3)]
            self.assertEqual(told[1:], told[:-1], asked)


class Kinds(unittest.TestCase):
    def test_each_tells_the_kind_that_the_interface_lists(self):
        for asked, names in ASKED:
            self.assertIs(type(asked(**handed_in(names))), KINDS.get(asked.__name__, list), asked)

    def test_whether_something_is_told_as_true_or_false_of_anything(self):
        pair = pair_of("abc", "cab")
        for thing in other_things():
            for told in (rows.is_row(thing), rows.is_pair(thing), rows.is_event(pair, thing)):
                self.assertIs(told, False)


class Steps(unittest.TestCase):
    def steps(self, asked, letters, many):
        """How many lines of the program a function goes through."""
        things = many_things(letters, many)
        lines = []

        def trace(frame, what, _):
            if what == "line" and "twonames" in frame.f_globals["__name__"]:
                lines.append(None)
            return trace

        before = sys.gettrace()
        sys.settrace(trace)
        try:
            asked(**{name: things[name] for name in dict(ASKED)[asked]})
        finally:
            sys.settrace(before)
        return len(lines)

    def test_twice_as_many_events_or_letters_in_a_list_take_a_few_times_as_many_steps(self):
        for asked, _ in ASKED:
            for many in [50, 100, 200]:
                self.assertLess(self.steps(asked, 16, 2 * many), 4 * self.steps(asked, 16, many), asked)

    def test_twice_as_many_letters_in_a_row_take_a_few_times_as_many_steps(self):
        for asked, _ in ASKED:
            for letters in [4, 8]:
                self.assertLess(self.steps(asked, 2 * letters, 200), 9 * self.steps(asked, letters, 200), asked)

    def test_sixteen_letters_take_few_steps(self):
        for asked, _ in ASKED:
            self.assertLess(self.steps(asked, 16, 1), 10000, asked)

    def test_far_more_events_than_two_hundred_are_told_of(self):
        things = many_things(16, 20000)
        for asked, names in ASKED:
            asked(**{name: things[name] for name in names})


if __name__ == "__main__":
    unittest.main()
