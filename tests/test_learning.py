"""Points [25], [26] and [27]: a hearer who learns letters by name."""

import unittest
from itertools import permutations, product

from tests.helpers import (
    ALPHABET, NO_EVENTS_OF_ABC, NO_ROWS, SIXTEEN, Awkward, AwkwardNumber, AwkwardText, AwkwardTuple, Refusing, nested,
    other_things, pair_of, shuffled, within_itself,
)
from twonames.errors import NoEvents, NoLetter, NoPair
from twonames.learning import chains, found_out, is_learning, learn, name_all, namings

# A sign that is no letter stands for nobody, here and in the words of the tests.
PAIRS = [
    ("", ""), ("", "a"), ("", "..b"), ("a", ""), ("a", "a"), ("a", "b"), ("a", ".a"), ("ab", "ba"), ("ab", "b"),
    ("ab", "a"), ("ab", ".a"), ("ab", ".b"), ("ab", "..a"), ("abc", "bc"), ("abc", ".bca"), ("abc", "b.a"),
    ("abc", "xyz"), ("abc", "cx.b"), ("abcd", "b.dcxa"), ("abcd", "....a"), ("abcd", "dx"), ("abcde", "bca.d"),
]
NO_LEARNING = [
    [("a",), ("a",)], (["a"], ("a",)), (("a",), ["a"]), ("a", "a"), (("a",),), (("a",), ("a",), ("a",)), (), ((),),
    ((), None), (None, ()), (None, None), ((), [], ()), (("a",), (None,)), ((), (None,)), (("a",), ("a", None)),
    (("a",), ("a", None, None)), (("a",), (None, None)), (("a", "a"), ("a",)), (("a",), ("b", "b")),
    (("a",), ("b", None, "b")), (("a", None), ("a",)), ((None,), ("a",)), ((None,), ()), (("a",), ("A",)),
    (("a",), ("ab",)), (("a",), ("",)), (("ab",), ("a",)), (("A",), ("a",)), (("a",), (0,)), (("a",), (False, "a")),
    (("a",), (True,)), (("a",), (b"a",)), (("a",), (("a",),)), (("a",), (["a"],)), ((1,), ("a",)), ((("a",),), ("a",)),
    (tuple("abcdefghijklmnopq"), ()), (tuple(ALPHABET), tuple(ALPHABET)), (("a",), ("a", "")), (("a",), (0, "a")),
    (("a",), (Awkward(),)), ((Awkward(),), ("a",)), (("a",), (None, Awkward())), (("a",), (Awkward(), "a")),
    (("a",), (AwkwardText("a"),)), (("a",), AwkwardTuple(("a",))), (AwkwardTuple(("a",)), ("a",)),
    (("a",), (nested(tuple), "a")), (nested(tuple), nested(tuple)), (("a",), (nested(list),)), {("a",): ("a",)}, "a/a",
]
# Of the pair (a b c), (b . x).
NO_EVENTS_NOW = [
    ("place", 3), ("place", -1), ("place", True), ("place", "a"), ("place", None), ("place",), ("place", 0, 1),
    ["place", 0], "place", ("place", 0.0), ("place", (0,)), ("lost", 3), ("lost", -1), ("lost", False), ("lost", "a"),
    ("lost",), ("lost", 0, 0), ("twice", 3), ("twice", -1), ("twice", True), ("twice",), ("twice", 0, 0),
    ("new", "a"), ("new", "b"), ("new", "x"), ("new", "A"), ("new", "qr"), ("new", ""), ("new", 0), ("new", None),
    ("new", ("q",)), ("new", ["q"]), ("new", b"q"), ("new",), ("new", "q", "r"), ("new", 0, "q"), ["new", "q"],
    ("lostnew", "a"), ("lostnew", "b"), ("lostnew", "x"), ("lostnew", "Q"), ("lostnew", 0), ("lostnew", None),
    ("lostnew",), ("lostnew", "q", "r"), ("lostnew", 0, "q"), ["lostnew", "q"],
    ("named", 0, "b"), ("named", 1, "a"), ("named", 0, "x"), ("named", 2, "x"), ("named", 0, "q"), ("named", 3, "a"),
    ("named", -1, "c"), ("named", True, "b"), ("named", False, "a"), ("named", "a", 0), ("named", "a"), ("named", 0),
    ("named", 0, None), ("named", 1, None), ("named", None, "a"), ("named", 0, "a", "a"), ("named", 0, ("a",)),
    ("named", 0, ["a"]), ("named", 0, 0), ["named", 0, "a"], ("named", (0, "a")), ("named",), ("named", 0, b"a"),
    ("name", "a"), ("name", 0, "a"), ("as", 0, 1), ("as", 1, 0), ("New", "q"), ("news", "q"), ("lost new", "q"),
    ("", 0), (0, 0), (None, "q"), (b"new", "q"), (("new",), "q"), (), None, 0, True, [], {}, "new q",
    (Awkward(), 0), ("place", Awkward()), ("new", Awkward()), ("new", AwkwardText("q")), (AwkwardText("new"), "q"),
    ("place", AwkwardNumber(0)), ("named", AwkwardNumber(0), "a"), ("named", 0, Awkward()), ("named", Awkward(), "a"),
    ("named", 0, AwkwardText("a")), AwkwardTuple(("place", 0)), nested(tuple), ("new", nested(tuple)), within_itself(),
]
NOW = (tuple("abc"), ("b", None, "x"))


def learning(told, heard):
    """A learning pair; each sign of heard that is no letter is nobody."""
    return tuple(told), tuple(x if x in ALPHABET else None for x in heard)


def model_learn(pair, events):
    """By the words of (25), where behind the hearer's row so many nobodies stand that none is ever missing."""
    told, heard = list(pair[0]), list(pair[1]) + [None] * (20 + 2 * len(events))
    said, written = [], []
    for event in events:
        kind, last = event[0], event[-1]
        if kind in ("new", "lostnew"):
            told.insert(0, last)
            said.append(last)
            if kind == "new":
                heard.insert(0, last)
                written.append(last)
            continue
        place = event[1]
        if kind == "named":
            if last in heard:
                other = heard.index(last)
                heard[place], heard[other] = heard[other], heard[place]
            heard[place] = last
        told.insert(0, told.pop(place))
        said.append(told[0])
        for _ in range({"lost": 0, "twice": 2}.get(kind, 1)):
            heard.insert(0, heard.pop(place))
            written.append(heard[0])
    while heard and heard[-1] is None:
        heard.pop()
    return (tuple(told), tuple(heard)), said, written


def model_read(pair):
    """Of each letter of the teller as whom it is read; None of nobody."""
    heard = pair[1] + (None,) * 16
    return dict(zip(pair[0], heard))


def wrong_letters(pair):
    return [x for x, who in sorted(model_read(pair).items()) if x != who]


def place_events(told):
    return [(kind, at) for kind in ("place", "lost", "twice") for at in range(len(told))]


def events_now(pair, letters="qz"):
    """All events that can be, the new letters among these alone."""
    told, heard = pair
    new = [x for x in letters if x not in told and x not in heard and len(told) < 16]
    named = [("named", at, x) for at, x in enumerate(told)]
    return place_events(told) + named + [(kind, x) for kind in ("new", "lostnew") for x in new]


def many_learned(pair, many, turn=1, kinds=("place", "lost", "twice", "new", "lostnew", "named")):
    """A list of so many events of these kinds, each one that can be at its turn."""
    events = []
    number = turn
    for _ in range(many):
        number = (number * 1103515245 + 12345) % 2147483648
        choices = [event for event in events_now(pair, ALPHABET) if event[0] in kinds]
        events.append(choices[(number >> 8) % len(choices)])
        pair = model_learn(pair, events[-1:])[0]
    return events


def shuffled_pairs(many):
    """Pairs of up to sixteen letters, some of them unknown to the hearer, nobody here and there."""
    for turn in range(many):
        told = shuffled(ALPHABET, turn)[:turn % 17]
        heard = shuffled(told + shuffled(ALPHABET, turn)[22:] + (None,) * (turn % 5), turn + many)[turn % 4:]
        while heard and heard[-1] is None:
            heard = heard[:-1]
        yield told, heard


class IsLearning(unittest.TestCase):
    def test_learning_pairs(self):
        for told, heard in PAIRS:
            self.assertIs(is_learning(learning(told, heard)), True, (told, heard))
        for pair in [
            (SIXTEEN, SIXTEEN), (SIXTEEN, ()), ((), SIXTEEN), ((), tuple(ALPHABET)), (SIXTEEN, tuple(ALPHABET)),
            (("a",), (None,) * 31 + ("a",)), ((), (None, "z")), (SIXTEEN, (None, "q") + (None,) * 29 + ("a",)), NOW,
        ]:
            self.assertIs(is_learning(pair), True, pair)
        for pair in shuffled_pairs(60):
            self.assertIs(is_learning(pair), True, pair)

    def test_near_ones_are_none(self):
        for thing in NO_LEARNING:
            self.assertIs(is_learning(thing), False, thing)
        self.assertIs(is_learning(pair_of("abcdefghijklmnop", "a")), True)
        self.assertIs(is_learning(pair_of("abcdefghijklmnopq", "a")), False)

    def test_told_is_a_row_or_empty(self):
        for row in NO_ROWS:
            if row != ():
                self.assertIs(is_learning((row, ())), False, row)

    def test_other_things_are_none(self):
        for number, thing in enumerate(other_things()):
            two = type(thing) is tuple and len(thing) == 2
            empty = two and all(type(part) is tuple and len(part) == 0 for part in thing)
            self.assertIs(is_learning(thing), empty, number)
            self.assertIs(is_learning((("a",), thing)), type(thing) is tuple and len(thing) == 0, number)
            self.assertIs(is_learning((thing, ("a",))), type(thing) is tuple and len(thing) == 0, number)

    def test_what_is_told_of_events_is_one(self):
        for turn, pair in enumerate(shuffled_pairs(60)):
            self.assertIs(is_learning(learn(pair, many_learned(pair, 30 if pair[0] else 0, turn))[0]), True)


class Learn(unittest.TestCase):
    def check(self, pair, events):
        told = learn(pair, events)
        self.assertEqual(told, model_learn(pair, events), (pair, events))
        self.assertEqual([type(told)] + [type(part) for part in told], [tuple, tuple, list, list])
        self.assertEqual([type(row) for row in told[0]], [tuple, tuple])

    def test_each_event_of_each_pair_and_each_behind_it(self):
        for told, heard in PAIRS:
            pair = learning(told, heard)
            self.check(pair, [])
            for event in events_now(pair):
                self.check(pair, [event])
                for other in events_now(model_learn(pair, [event])[0])[::3]:
                    self.check(pair, [event, other])

    def test_longer_lists(self):
        for turn, pair in enumerate(shuffled_pairs(80)):
            kinds = ("new",) * (not pair[0]) or ("place", "lost", "twice", "new", "lostnew", "named")
            self.check(pair, many_learned(pair, 1 if not pair[0] else 3 * turn, turn, kinds))
        self.check((SIXTEEN, SIXTEEN[::-1]), many_learned((SIXTEEN, SIXTEEN[::-1]), 200))
        self.check(((), ()), [("new", "a")] + many_learned((("a",), ("a",)), 199))

    def test_each_kind_by_example(self):
        for told, heard, event, told_behind, heard_behind, said, written in [
            ("abc", "b.x", ("place", 0), "abc", "b.x", "a", "b"), ("abc", "b.x", ("place", 1), "bac", ".bx", "b", "."),
            ("abc", "b.x", ("place", 2), "cab", "xb", "c", "x"), ("abc", "b", ("place", 2), "cab", ".b", "c", "."),
            ("abc", "", ("place", 2), "cab", "", "c", "."), ("abc", "b", ("place", 1), "bac", ".b", "b", "."),
            ("abc", "b.x", ("lost", 2), "cab", "b.x", "c", ""), ("abc", "b.x", ("lost", 0), "abc", "b.x", "a", ""),
            ("abc", "b.x", ("twice", 0), "abc", "b.x", "a", "bb"),
            ("abc", "b.x", ("twice", 2), "cab", ".xb", "c", "x."),
            ("abc", "b.x", ("twice", 1), "bac", "b.x", "b", ".b"), ("abc", "b", ("twice", 1), "bac", "b", "b", ".b"),
            ("abc", "", ("twice", 1), "bac", "", "b", ".."), ("abc", "b", ("twice", 2), "cab", "..b", "c", ".."),
            ("abc", "b.x", ("new", "q"), "qabc", "qb.x", "q", "q"), ("", "", ("new", "q"), "q", "q", "q", "q"),
            ("abc", "b.x", ("lostnew", "q"), "qabc", "b.x", "q", ""), ("", "", ("lostnew", "q"), "q", "", "q", ""),
            ("abc", "b.x", ("named", 0, "a"), "abc", "a.x", "a", "a"),
            ("abc", "b.x", ("named", 1, "b"), "bac", "b.x", "b", "b"),
            ("abc", "b.x", ("named", 2, "c"), "cab", "cb", "c", "c"),
            ("abc", "", ("named", 2, "c"), "cab", "c", "c", "c"),
            ("abc", "abc", ("named", 1, "b"), "bac", "bac", "b", "b"),
            ("ab", "ba", ("named", 1, "b"), "ba", "ba", "b", "b"),
            ("abc", "c", ("named", 2, "c"), "cab", "c", "c", "c"),
            ("abc", "xc", ("named", 0, "a"), "abc", "ac", "a", "a"),
            ("abc", "xya", ("named", 0, "a"), "abc", "ayx", "a", "a"),
            ("a", "..a", ("named", 0, "a"), "a", "a", "a", "a"),
            ("ab", "x...b", ("named", 1, "b"), "ba", "bx", "b", "b"),
            ("ab", "x.a", ("named", 0, "a"), "ab", "a.x", "a", "a"),
        ]:
            pair, behind = learning(told, heard), learning(told_behind, heard_behind)
            wrote = [x if x in ALPHABET else None for x in written]
            self.assertEqual(learn(pair, [event]), (behind, list(said), wrote), (told, heard, event))

    def test_nobodies_at_the_end_fall_off(self):
        self.assertEqual(learn(learning("ab", ".a"), [("place", 1)]), (learning("ba", "a"), ["b"], ["a"]))
        self.assertEqual(learn(learning("abcd", "...a"), [("place", 3)]), (learning("dabc", "a"), ["d"], ["a"]))
        self.assertEqual(learn(learning("ab", ".a"), [("twice", 1)]), (learning("ba", ".a"), ["b"], ["a", None]))
        for pair in shuffled_pairs(60):
            behind = learn(pair, many_learned(pair, 20, 3))[0] if pair[0] else pair
            self.assertTrue(behind[1] == () or behind[1][-1] is not None)

    def test_behind_both_rows_stands_nobody_for_ever(self):
        pair = learning("abcdef", "x")
        self.assertEqual(learn(pair, [("place", 5)] * 5), (learning("bcdefa", ".....x"), list("fedcb"), [None] * 5))
        self.assertEqual(learn(pair, [("place", 5)] * 6), (learning("abcdef", "x"), list("fedcba"), [None] * 5 + ["x"]))
        pair = learning("ab", "")
        self.assertEqual(learn(pair, [("place", 1)] * 100), (pair, list("ba") * 50, [None] * 100))

    def test_fifteen_letters_and_a_new_one(self):
        fifteen = SIXTEEN[:15]
        for kind, heard in [("new", ("q",) + fifteen), ("lostnew", fifteen)]:
            behind = learn((fifteen, fifteen), [(kind, "q")])[0]
            self.assertEqual(behind, (("q",) + fifteen, heard))
            for later in ("new", "lostnew"):
                with self.assertRaises(NoEvents):
                    learn((fifteen, fifteen), [(kind, "q"), (later, "r")])
                with self.assertRaises(NoEvents):
                    learn(behind, [(later, "r")])

    def test_sixteen_new_letters_and_no_more(self):
        for kind in ("new", "lostnew"):
            behind, said, written = learn(((), ()), [(kind, x) for x in SIXTEEN])
            self.assertEqual((behind[0], said), (SIXTEEN[::-1], list(SIXTEEN)))
            self.assertEqual((behind[1], written), ((SIXTEEN[::-1], list(SIXTEEN)) if kind == "new" else ((), [])))
            with self.assertRaises(NoEvents):
                learn(((), ()), [(kind, x) for x in SIXTEEN + ("q",)])

    def test_a_letter_is_new_but_once(self):
        for kind, later in product(("new", "lostnew"), repeat=2):
            for pair in [((), ()), NOW]:
                with self.assertRaises(NoEvents):
                    learn(pair, [(kind, "q"), (later, "q")])
                with self.assertRaises(NoEvents):
                    learn(pair, [(kind, "q"), ("place", 0), (later, "q")])

    def test_a_letter_that_only_the_hearer_had_is_new_when_it_stands_nowhere(self):
        events = [("named", 2, "c"), ("new", "x")]
        self.assertEqual(learn(NOW, events), (learning("xcab", "xcb"), ["c", "x"], ["c", "x"]))


class Chains(unittest.TestCase):
    def check(self, pair):
        told = chains(pair)
        self.assertEqual([type(told), len(told), type(told[0]), type(told[1])], [tuple, 2, list, list])
        self.assertEqual({type(part) for parts in told for part in parts} - {tuple}, set())
        rings, strings = told
        read = model_read(pair)
        wrong = sorted(x for part in rings + strings for x in part)
        self.assertEqual(wrong, wrong_letters(pair), pair)
        for part in rings + strings:
            for one, other in zip(part, part[1:]):
                self.assertEqual(read[one], other)
        for ring in rings:
            self.assertGreaterEqual(len(ring), 2)
            self.assertEqual((read[ring[-1]], ring[0]), (ring[0], min(ring)))
        for string in strings:
            self.assertNotIn(read[string[-1]], pair[0])
            self.assertNotIn(string[0], read.values())
        for parts in told:
            firsts = [part[0] for part in parts]
            self.assertEqual(firsts, sorted(firsts))

    def test_pairs_by_example(self):
        for told, heard, rings, strings in [
            ("", "", "", ""), ("", "a.b", "", ""), ("a", "a", "", ""), ("a", "", "", "a"), ("a", "b", "", "a"),
            ("a", ".a", "", "a"), ("ab", "ba", "ab", ""), ("ab", "b", "", "ab"), ("ab", ".a", "", "ba"),
            ("ab", ".b", "", "a"), ("abc", "bca", "abc", ""), ("abc", "bc", "", "abc"), ("abc", "xyz", "", "a b c"),
            ("abc", "b.x", "", "ab c"), ("abcd", "badx", "ab", "cd"), ("dcba", "cd", "cd", "a b"),
            ("abcdef", "bae.xf", "ab", "ce d"), ("fedcba", "def.ba", "df", "c"), ("abcdef", "badcfe", "ab cd ef", ""),
            ("zyx", "yz", "yz", "x"), ("zyx", ".zy", "", "xyz"),
        ]:
            pair = learning(told, heard)
            self.check(pair)
            expected = [tuple(word) for word in rings.split()], [tuple(word) for word in strings.split()]
            self.assertEqual(chains(pair), expected, (told, heard))

    def test_every_pair_of_few_letters(self):
        for told in ["", "a", "ab", "cab"]:
            for many in range(5):
                for heard in product("abcx.", repeat=many):
                    pair = learning(told, heard)
                    if is_learning(pair):
                        self.check(pair)

    def test_further_pairs(self):
        for pair in shuffled_pairs(100):
            self.check(pair)

    def test_new_letters_lost(self):
        pair = learn(learning("abc", "abc"), [("lostnew", "q")])[0]
        self.assertEqual(chains(pair), ([], [tuple("qabc")]))
        self.assertEqual(chains(learn(pair, [("lostnew", "r")])[0]), ([], [tuple("qb"), tuple("rac")]))
        self.assertEqual(chains(learn(pair, [("lost", 3)])[0]), ([("a", "c")], [("q", "b")]))
        for turn in range(40):
            first = learning("abcdefgh"[:turn % 9], "abcdefgh"[:turn % 9])
            events = [("lostnew", "q"), ("lostnew", "r")] + many_learned((tuple("rq") + first[0], first[1]), 9, turn)
            self.check(learn(first, events)[0])

    def test_places_change_nothing_of_it(self):
        for turn, pair in enumerate(shuffled_pairs(60)):
            told = chains(pair)
            for at in range(len(pair[0])):
                self.assertEqual(chains(learn(pair, [("place", at)])[0]), told)
            if pair[0]:
                self.assertEqual(chains(learn(pair, many_learned(pair, 50, turn, ("place",)))[0]), told)

    def test_a_pair_of_rows_has_its_rings(self):
        for heard in permutations("abcd"):
            self.assertEqual(chains((tuple("cdab"), heard))[1], [])
            self.check((tuple("cdab"), heard))


class FoundOut(unittest.TestCase):
    def check(self, pair, events):
        number = found_out(pair, events)
        found = [at for at in range(len(events)) if None in model_learn(pair, events[:at + 1])[2]]
        self.assertEqual(number, min(found, default=None), (pair, events))
        self.assertIn(type(number), [int, type(None)])
        return number

    def test_every_list_of_two_events(self):
        for told, heard in PAIRS:
            pair = learning(told, heard)
            self.assertIsNone(self.check(pair, []))
            for event in events_now(pair):
                self.check(pair, [event])
                for other in events_now(model_learn(pair, [event])[0])[::3]:
                    self.check(pair, [event, other])

    def test_longer_lists(self):
        numbers = set()
        for turn in range(60):
            pair = shuffled(SIXTEEN[:3 + turn % 8], turn), shuffled(SIXTEEN[:3 + turn % 8], turn + 60)
            numbers.add(self.check(pair, many_learned(pair, 60, turn, ("place", "new", "lostnew", "lost"))))
            numbers.add(self.check(pair, many_learned(pair, 10, turn)))
        self.assertIn(None, numbers)
        self.assertGreater(max(number for number in numbers if number is not None), 5)

    def test_by_example(self):
        for told, heard, events, number in [
            ("ab", "b", [("place", 0)], None), ("ab", "b", [("place", 1)], 0),
            ("ab", "b", [("place", 0), ("place", 1)], 1), ("ab", ".b", [("place", 0)], 0),
            ("ab", ".b", [("place", 1), ("place", 1)], 1), ("ab", ".b", [("lost", 0)], None),
            ("ab", "ba", [("place", 1), ("twice", 1)], None), ("ab", "", [("named", 1, "b"), ("place", 1)], 1),
            ("ab", "ab", [("lostnew", "q"), ("place", 1), ("place", 2)], 2),
            ("ab", "ab", [("lostnew", "q"), ("twice", 2)], 1),
            ("ab", "ab", [("new", "q"), ("place", 2)], None), ("ab", "", [("lost", 0), ("lostnew", "q")], None),
        ]:
            self.assertEqual(found_out(learning(told, heard), events), number, (told, heard, events))

    def test_nobody_by_the_second_time_alone(self):
        pair = learning("abc", "b.x")
        self.assertEqual(learn(pair, [("twice", 2)])[2], ["x", None])
        self.assertEqual(found_out(pair, [("lost", 0), ("twice", 2), ("place", 0)]), 1)

    def test_just_when_a_strings_last_letter_that_is_read_as_nobody_is_told(self):
        for turn in range(60):
            pair = learning("abcdef", "abcdef"[:turn % 6])
            pair = learn(pair, many_learned(pair, 10, turn, ("place", "lost", "lostnew", "named")))[0]
            events = many_learned(pair, 20, turn, ("place",))
            ends = [string[-1] for string in chains(pair)[1] if model_read(pair)[string[-1]] is None]
            said = learn(pair, events)[1]
            told = [at for at, letter in enumerate(said) if letter in ends]
            self.assertEqual(self.check(pair, events), min(told, default=None))

    def test_until_then_all_could_have_been_told_by_another_teller_without_a_fault(self):
        for turn, (told, heard) in enumerate(shuffled_pairs(80)):
            heard = tuple(x for x in heard if x)
            if not told:
                continue
            events = many_learned((told, heard), 30, turn, ("place", "lost", "twice", "new", "lostnew"))
            number = found_out((told, heard), events)
            other, faultless, written = list(heard), [], []
            for event in events[:number]:
                faultless += {"place": [event], "twice": [("place", event[1])] * 2, "new": [event]}.get(event[0], [])
            # Of the other teller, who has the hearer's row, each place is one and all is read right.
            for kind, thing in faultless:
                if kind == "new":
                    other.insert(0, thing)
                else:
                    self.assertLess(thing, len(other))
                    other.insert(0, other.pop(thing))
                written.append(other[0])
            behind, _, wrote = learn((told, heard), events[:number])
            self.assertEqual((behind[1], wrote), (tuple(other), written))

    def test_all_events_are_to_be_such_as_can_be_also_behind_that(self):
        pair = learning("ab", "")
        self.assertEqual(found_out(pair, [("place", 0), ("place", 1)]), 0)
        with self.assertRaises(NoEvents):
            found_out(pair, [("place", 0), ("place", 2)])


def model_namings(pair):
    """How few "named" events put all letters right, places between, gone through."""
    many, layer = 0, [pair]
    while all(wrong_letters(one) for one in layer):
        for one in layer:
            behind = [model_learn(one, [("place", at)])[0] for at in range(len(one[0]))]
            layer += [other for other in behind if other not in layer]
        named = [(one, ("named", at, x)) for one in layer for at, x in enumerate(one[0])]
        layer = list({model_learn(one, [event])[0] for one, event in named})
        many += 1
    return many


class Namings(unittest.TestCase):
    def test_how_few_by_example(self):
        for told, heard, many in [
            ("", "", 0), ("", "a", 0), ("a", "a", 0), ("a", "", 1), ("a", "b", 1), ("a", ".a", 1), ("ab", "ba", 1),
            ("ab", "b", 2), ("ab", "ab..c", 0), ("abc", "bca", 2), ("abc", "", 3), ("abcd", "badc", 2),
            ("abcd", "badx", 3), ("abcdef", "badcfe", 3), (SIXTEEN, SIXTEEN[1:] + SIXTEEN[:1], 15),
            (SIXTEEN, SIXTEEN[1:], 16), (SIXTEEN, "", 16),
        ]:
            self.assertEqual(namings(learning(told, heard)), many, (told, heard))
            self.assertIs(type(namings(learning(told, heard))), int)

    def test_no_fewer_do(self):
        for told in ["", "a", "ab", "cab"]:
            for many in range(4):
                for heard in product("abcx.", repeat=many):
                    pair = learning(told, heard)
                    if is_learning(pair):
                        self.assertEqual(namings(pair), model_namings(pair), pair)

    def test_letters_not_read_right_less_rings(self):
        for pair in shuffled_pairs(100):
            self.assertEqual(namings(pair), len(wrong_letters(pair)) - len(chains(pair)[0]))

    def test_no_naming_makes_a_letter_wrong_that_was_right(self):
        for pair in shuffled_pairs(60):
            for at, letter in enumerate(pair[0]):
                behind = learn(pair, [("named", at, letter)])[0]
                self.assertLessEqual(set(wrong_letters(behind)), set(wrong_letters(pair)) - {letter})

    def test_whoever_names_letters_not_read_right_has_put_all_right_behind_just_so_many(self):
        for turn, pair in enumerate(shuffled_pairs(60)):
            many = namings(pair)
            for done in range(many):
                wrong = wrong_letters(pair)
                self.assertEqual(namings(pair), many - done)
                pair = learn(pair, name_all(pair, [wrong[(turn + done) % len(wrong)]]))[0]
                if done % 2 and pair[0]:
                    pair = learn(pair, [("place", turn % len(pair[0]))])[0]
            self.assertEqual((wrong_letters(pair), namings(pair)), ([], 0))


class NameAll(unittest.TestCase):
    def check(self, pair, letters):
        events = name_all(pair, letters)
        self.assertIs(type(events), list)
        expected = [(tuple, "named", x) for x in letters]
        self.assertEqual([(type(event), event[0], event[2]) for event in events], expected)
        behind, said, written = learn(pair, events)
        self.assertEqual((behind, said, written), model_learn(pair, events))
        self.assertEqual((said, written), (letters, letters))
        self.assertEqual(behind[0][:len(letters)], tuple(letters[::-1]))
        self.assertEqual(set(wrong_letters(behind)) & set(letters), set())
        self.assertLessEqual(set(wrong_letters(behind)), set(wrong_letters(pair)))

    def test_letters_in_any_order(self):
        for told, heard in PAIRS:
            for many in range(len(told) + 1):
                for letters in permutations(told, many):
                    self.check(learning(told, heard), list(letters))

    def test_further_pairs(self):
        for turn, pair in enumerate(shuffled_pairs(80)):
            for many in {0, 1, len(pair[0]) // 2, len(pair[0])}:
                self.check(pair, list(shuffled(pair[0], turn))[:many])
            self.assertEqual(namings(learn(pair, name_all(pair, list(shuffled(pair[0], turn + 1))))[0]), 0)

    def test_all_wrong_letters_in_any_order(self):
        for told, heard in PAIRS:
            pair = learning(told, heard)
            for letters in permutations(wrong_letters(pair)):
                self.assertEqual(namings(learn(pair, name_all(pair, list(letters)))[0]), 0)

    def test_by_example(self):
        self.assertEqual(name_all(learning("abc", "bca"), []), [])
        self.assertEqual(name_all(learning("abc", "bca"), list("ca")), [("named", 2, "c"), ("named", 1, "a")])
        self.assertEqual(
            name_all(learning("abcd", ""), list("adb")), [("named", 0, "a"), ("named", 3, "d"), ("named", 2, "b")],
        )


class Refused(Refusing, unittest.TestCase):
    def test_no_pair(self):
        for thing in NO_LEARNING + [thing for thing in other_things() if type(thing) is not tuple or len(thing) != 2]:
            self.refused(NoPair, learn, thing, [])
            self.refused(NoPair, found_out, thing, [])
            self.refused(NoPair, chains, thing)
            self.refused(NoPair, namings, thing)
            self.refused(NoPair, name_all, thing, [])

    def test_no_events(self):
        for thing in NO_EVENTS_NOW:
            for events in ([thing], [("place", 0), thing], [thing, ("place", 1)]):
                self.refused(NoEvents, learn, NOW, events)
                self.refused(NoEvents, found_out, NOW, events)
        for thing in NO_EVENTS_OF_ABC:
            self.refused(NoEvents, learn, pair_of("abc", "cab"), [thing])
        for thing in other_things():
            self.refused(NoEvents, learn, NOW, [thing])
            self.refused(NoEvents, found_out, NOW, [("lost", 1), thing])
        for thing in [(("place", 0),), ("place", 0), "place", {}, {("place", 0): 1}, iter([])] + other_things():
            self.refused(NoEvents, learn, NOW, thing)
            self.refused(NoEvents, found_out, NOW, thing)

    def test_events_that_can_be_only_at_another_turn(self):
        for pair, events in [
            (((), ()), [("place", 0)]), (((), ()), [("place", 0), ("new", "a")]), (((), ()), [("named", 0, "a")]),
            (((), ()), [("new", "a"), ("place", 1), ("new", "b")]), (NOW, [("place", 3), ("new", "q")]),
            (NOW, [("named", 0, "q"), ("new", "q")]), (NOW, [("place", 2), ("named", 2, "c")]),
            (NOW, [("lost", 1), ("named", 0, "a")]), (NOW, [("new", "x"), ("named", 2, "c")]),
            (NOW, [("lostnew", "q"), ("named", 0, "a")]), (NOW, [("named", 0, "a"), ("new", "x")]),
        ]:
            self.refused(NoEvents, learn, pair, events)
            self.refused(NoEvents, found_out, pair, events)
        for events in [
            [("new", "q"), ("place", 3)], [("new", "q"), ("named", 0, "q")], [("place", 2), ("named", 0, "c")],
            [("lost", 1), ("named", 1, "a")], [("named", 2, "c"), ("new", "x")], [("lostnew", "q"), ("named", 1, "a")],
        ]:
            self.assertEqual(learn(NOW, events), model_learn(NOW, events))

    def test_no_letters(self):
        self.letters_refused(lambda word, thing: name_all((tuple(word), ("x",)), thing))
        self.letters_refused(lambda word, thing: name_all(pair_of(word, word), thing))
        for letters in ["aa", "aba", "abca", "cbcc"]:
            self.refused(NoLetter, name_all, NOW, list(letters))
        for letters in [["x"], ["a", "x"], [None], ["a", None]]:
            self.refused(NoLetter, name_all, NOW, letters)
        self.refused(NoLetter, name_all, ((), ("a",)), ["a"])

    def test_in_the_order_of_what_is_handed_in(self):
        for pair in NO_LEARNING:
            for thing in [None, (), [("place", 99)], [("new", "A")], ["?"], "ab", ["a", "a"]]:
                self.refused(NoPair, learn, pair, thing)
                self.refused(NoPair, found_out, pair, thing)
                self.refused(NoPair, name_all, pair, thing)


if __name__ == "__main__":
    unittest.main()
