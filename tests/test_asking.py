"""Point [2]: what holds of every function that asks."""

import copy
import inspect
import sys
import unittest

from tests.helpers import SIXTEEN, many_events, other_things, pair_of, shuffled, turned
from twonames import (
    ahead, alone, explained, healing, hearers, learning, made, onering, prices, readings, rounds, rows, texts,
)

INTERFACE = {
    rows: {"is_row": ["thing"], "is_pair": ["thing"], "is_event": ["pair", "thing"], "go": ["pair", "events"]},
    readings: {
        "reading": ["pair"], "wrong": ["pair"], "rings": ["pair"],
        "fault_rings": ["pair", "events"], "left": ["pair", "events"], "leaves_none": ["pair", "events"],
    },
    made: {"made_by": ["row", "wished"], "even": ["pair"]},
    alone: {"alone": ["pair"], "can_heal": ["pair", "letters"]},
    healing: {
        "names_needed": ["pair"], "healing": ["pair"], "heals": ["pair", "events"], "one_name": ["pair", "letter"],
    },
    onering: {"fewest_places": ["pair"], "shortest_healing": ["pair"]},
    prices: {"needs": ["pair", "text"], "telling": ["pair", "text"], "orders": ["pair"]},
    rounds: {
        "rounds": ["pair", "events", "many"], "period": ["pair", "events"], "right_again": ["pair", "events"],
    },
    explained: {
        "explained": ["row", "said", "written"], "is_history": ["row", "said", "written", "thing"],
        "places_of": ["row", "said"], "said_of": ["row", "places"],
    },
    hearers: {"all_alone": ["row", "hearers"], "all_needs": ["row", "hearers", "text"]},
    ahead: {"ahead_go": ["pair", "events"], "ahead_made": ["row", "wished"]},
    learning: {
        "is_learning": ["thing"], "learn": ["pair", "events"], "chains": ["pair"], "found_out": ["pair", "events"],
        "namings": ["pair"], "name_all": ["pair", "letters"],
    },
    texts: {
        "show_row": ["row"], "show_pair": ["pair"], "show_events": ["events"], "show_rings": ["wished"],
        "read_row": ["text"], "read_pair": ["text"], "read_events": ["text"], "read_rings": ["text"],
    },
}
ASKED = [(getattr(module, name), names) for module, told in INTERFACE.items() for name, names in told.items()]
KINDS = {
    "is_row": bool, "is_pair": bool, "is_event": bool, "go": tuple, "leaves_none": bool, "made_by": tuple, "even": bool,
    "alone": tuple, "can_heal": bool, "names_needed": int, "heals": bool, "one_name": tuple, "fewest_places": int,
    "orders": tuple, "rounds": tuple, "period": tuple, "right_again": int, "explained": tuple, "is_history": bool,
    "ahead_go": tuple, "ahead_made": tuple, "is_learning": bool, "learn": tuple, "chains": tuple, "found_out": int,
    "namings": int, "show_row": str, "show_pair": str, "show_events": str, "show_rings": str, "read_row": tuple,
    "read_pair": tuple,
}
NO_ORDERS_GONE_THROUGH = [asked for asked, _ in ASKED if asked is not prices.orders]
LEARNERS = (learning.learn, learning.found_out, learning.chains, learning.namings, learning.name_all)


def handed_in(asked):
    """What is handed in, made anew at each call, by the names of the arguments."""
    # Of just one ring: a, d, c.
    pair = pair_of("cabed", "adbec")
    things = {
        "pair": pair,
        "row": pair[0],
        "wished": [tuple("ad"), tuple("bec")],
        "letters": ["d", "a"],
        "letter": "d",
        "events": [("place", 2), ("lost", 3), ("as", 1, 4), ("twice", 2), ("place", 4), ("lost", 0)],
        "thing": pair,
        "text": list("deacdd"),
        "many": 7,
        "said": list("ebb"),
        "written": list("ebc"),
        "places": [4, 0, 3, 3],
        "hearers": [tuple("adbec"), tuple("cbade")],
    }
    things.update(others_handed_in(asked, things))
    return {name: things[name] for name in dict(ASKED)[asked]}


def others_handed_in(asked, things):
    """What is handed in to functions that take things of another kind under the same name."""
    if asked is rows.is_event:
        return {"thing": ("as", 1, 4)}
    if asked is rounds.right_again:
        return {"pair": rows.go((things["row"], things["row"]), things["events"])[0]}
    if asked is explained.is_history:
        return {"thing": [("place", 3), ("place", 3), ("as", 0, 2)]}
    if asked is ahead.ahead_go:
        return {"events": [("place", 2), ("lost", 3), ("name", "e"), ("twice", 2), ("place", 4), ("lost", 0)]}
    if asked is learning.is_learning:
        return {"thing": (("a", "b"), (None, "a"))}
    if asked in LEARNERS:
        return {
            "pair": (tuple("cabed"), ("x", None, "c", "d", "e")),
            "events": [("place", 3), ("new", "q"), ("lost", 2), ("named", 0, "c"), ("twice", 3), ("lostnew", "z")],
        }
    written = {"read_row": "cab", "read_pair": "cab/bca", "read_events": "1 =a 2~3", "read_rings": "(ad)(bec)"}
    return {"text": written[asked.__name__]} if asked.__name__ in written else {}


def lists_within(thing):
    """Every list within a thing that is told, itself among them."""
    found = [thing] if isinstance(thing, list) else []
    if isinstance(thing, (list, tuple)):
        for part in thing:
            found += lists_within(part)
    return found


def many_things(asked, letters, many):
    """What is handed in: a row of so many letters, and lists of so many events and letters."""
    # Orders are gone through of seven letters at most, texts are told of by all their beginnings.
    row = SIXTEEN[:min(letters, 7)] if asked is prices.orders else SIXTEEN[:letters]
    few = min(many // 5, 200)
    events = many_events(row, many, names=False)
    things = {
        "pair": turned(row, shuffled(row, 1)),
        "row": row, "wished": [row[at:at + 2] for at in range(0, len(row), 2)], "events": events, "thing": events[0],
        "letters": list(row * many)[:many], "letter": row[-1], "text": list(shuffled(row, 2) * many)[:many],
        "many": 10 ** 29 + many, "said": list(row * few)[:few], "written": list(shuffled(row, 3) * few)[:few],
        "places": [at * 7 % letters for at in range(many)], "hearers": [shuffled(row, at) for at in range(4)],
    }
    things.update(other_many_things(asked, things, many))
    return {name: things[name] for name in dict(ASKED)[asked]}


def other_many_things(asked, things, many):
    """What is handed in to functions that take things of another kind under the same name."""
    row = things["row"]
    if asked in (rows.is_row, rows.is_pair, learning.is_learning):
        return {"thing": row if asked is rows.is_row else things["pair"]}
    if asked is explained.is_history:
        return {"thing": [("place", 0)] * many}
    if asked is ahead.ahead_go:
        return {"events": [event for event in things["events"] if event[0] != "as"]}
    if asked in LEARNERS:
        return {
            "pair": (row, (None,) * 16 + tuple("abqrzx")), "letters": list(row[::-1]),
            "events": [event for event in things["events"] if event[0] != "as"],
        }
    if asked in (texts.read_row, texts.read_pair):
        return {"text": "".join(row) if asked is texts.read_row else "".join(row) + "/" + "".join(row[::-1])}
    if asked in (texts.read_events, texts.read_rings):
        return {"text": " ".join(["1~2"] * many) if asked is texts.read_events else texts.show_rings(things["wished"])}
    return {}


class Names(unittest.TestCase):
    def test_each_function_stands_in_its_file_with_its_arguments(self):
        for asked, names in ASKED:
            self.assertEqual(list(inspect.signature(asked).parameters), names, asked)
        for module, told in INTERFACE.items():
            for name in told:
                self.assertEqual(getattr(module, name).__module__, module.__name__)

    def test_by_names_in_any_order_the_same_is_told_as_by_place(self):
        for asked, names in ASKED:
            by_place = asked(*handed_in(asked).values())
            self.assertEqual(asked(**handed_in(asked)), by_place)
            self.assertEqual(asked(**{name: handed_in(asked)[name] for name in reversed(names)}), by_place)

    def test_none_may_be_left_out(self):
        for asked, _ in ASKED:
            with self.assertRaises(TypeError):
                asked(*list(handed_in(asked).values())[1:])


class NothingIsChanged(unittest.TestCase):
    def test_what_was_handed_in_is_as_it_was(self):
        for asked, _ in ASKED:
            things = handed_in(asked)
            kept = copy.deepcopy(things)
            asked(**things)
            self.assertEqual(things, kept, asked)

    def test_what_is_refused_is_as_it_was(self):
        for asked, _ in ASKED:
            for bad in [("name", "z"), ("place", 9), ("name", "a"), "z", ("b", "a"), ["a"]]:
                things = handed_in(asked)
                for thing in things.values():
                    if isinstance(thing, list):
                        thing.append(bad)
                kept = copy.deepcopy(things)
                try:
                    asked(**things)
                except ValueError:
                    pass
                self.assertEqual(things, kept, (asked, bad))

    def test_what_is_told_may_be_changed(self):
        for asked, _ in ASKED:
            things = handed_in(asked)
            told = asked(**things)
            kept = copy.deepcopy(told)
            again = asked(**things)
            for part in lists_within(told):
                part.append("more")
                part[0] = None
            self.assertEqual(again, kept, asked)
            self.assertEqual(asked(**things), kept, asked)
            self.assertEqual(things, handed_in(asked), asked)

    def test_no_two_lists_are_one(self):
        for asked, _ in ASKED:
            things = handed_in(asked)
            found = lists_within(asked(**things)) + lists_within(asked(**things)) + lists_within(list(things.values()))
            self.assertEqual(len({id(part) for part in found}), len(found), asked)
        for events in [[], [("name", "a")]]:
            _, said, written = rows.go(pair_of("ab", "ab"), events)
            self.assertIsNot(said, written)
        wished = []
        self.assertIsNot(made.made_by(("a", "b"), wished)[1], wished)
        self.assertIsNot(made.made_by(("a", "b"), wished)[1], made.made_by(("a", "b"), wished)[1])
        self.assertIsNot(healing.healing(pair_of("ab", "ab")), healing.healing(pair_of("ab", "ab")))

    def test_a_list_that_was_handed_in_may_be_changed_later(self):
        for asked, _ in ASKED:
            things = handed_in(asked)
            told = asked(**things)
            kept = copy.deepcopy(told)
            for thing in things.values():
                if isinstance(thing, list):
                    thing.clear()
            self.assertEqual(told, kept, asked)

    def test_the_same_asking_tells_the_same(self):
        for asked, _ in ASKED:
            told = [asked(**handed_in(asked)) for _ in range(3)]
            self.assertEqual(told[1:], told[:-1], asked)


class Kinds(unittest.TestCase):
    def test_each_tells_the_kind_that_the_interface_lists(self):
        for asked, _ in ASKED:
            self.assertIs(type(asked(**handed_in(asked))), KINDS.get(asked.__name__, list), asked)

    def test_whether_something_is_told_as_true_or_false_of_anything(self):
        pair = pair_of("abc", "cab")
        for thing in other_things():
            for told in (rows.is_row(thing), rows.is_pair(thing), rows.is_event(pair, thing)):
                self.assertIs(told, False)


class Steps(unittest.TestCase):
    def steps(self, asked, letters, many):
        """How many lines of the program a function goes through."""
        things = many_things(asked, letters, many)
        return self.steps_of(asked, things)

    def steps_of(self, asked, things):
        lines = []

        def trace(frame, what, _):
            if what == "line" and "twonames" in frame.f_globals["__name__"]:
                lines.append(None)
            return trace

        before = sys.gettrace()
        sys.settrace(trace)
        try:
            asked(**things)
        finally:
            sys.settrace(before)
        return len(lines)

    def test_twice_as_many_events_or_letters_in_a_list_take_a_few_times_as_many_steps(self):
        for asked, _ in ASKED:
            for many in [50, 100, 200]:
                self.assertLess(self.steps(asked, 16, 2 * many), 5 * self.steps(asked, 16, many), asked)

    def test_twice_as_many_letters_in_a_row_take_a_few_times_as_many_steps(self):
        for asked in NO_ORDERS_GONE_THROUGH:
            for letters in [4, 8]:
                self.assertLess(self.steps(asked, 2 * letters, 200), 9 * self.steps(asked, letters, 200), asked)

    def test_sixteen_letters_take_few_steps(self):
        for asked in NO_ORDERS_GONE_THROUGH:
            self.assertLess(self.steps(asked, 16, 1), 10000, asked)

    def test_no_more_rounds_take_more_steps(self):
        for events in [many_events(SIXTEEN, 20, names=False), [("name", "a"), ("place", 15), ("lost", 2)]]:
            things = {"pair": (SIXTEEN, SIXTEEN[::-1]), "events": events, "many": 1000}
            few = self.steps_of(rounds.rounds, things)
            for many in [1001, 10 ** 12, 10 ** 30 - 1]:
                self.assertLess(self.steps_of(rounds.rounds, {**things, "many": many}), 2 * few)

    def test_letters_in_many_rings_of_places_take_few_steps(self):
        # The teller's letters stand in rings of 4, 5 and 7, the hearer's in rings of 13 and 3.
        told = [3, 8, 4, 4, 4, 4, 15, 9, 9, 9, 9, 9, 9, 9, 9, 9]
        heard = [12] + [15] + [13] * 13
        events = [("lost", at) for at in told] + [("as", 0, at) for at in heard]
        things = {"pair": (SIXTEEN, SIXTEEN), "events": events}
        self.assertEqual(rounds.period(**things), (0, 5460))
        for many in [1, 5459]:
            things["pair"] = rounds.rounds((SIXTEEN, SIXTEEN), events, many)
            self.assertEqual(rounds.right_again(**things), 5460 - many)
            self.assertLess(self.steps_of(rounds.right_again, things), 20000)

    def test_far_more_events_than_two_hundred_are_told_of(self):
        for asked, _ in ASKED:
            asked(**many_things(asked, 16, 20000))


if __name__ == "__main__":
    unittest.main()
