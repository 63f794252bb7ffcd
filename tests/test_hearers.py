"""Point [23]: several hearers of one teller."""

import unittest
from itertools import combinations, permutations, product

from tests.helpers import (
    NO_PAIRS, NO_ROWS, SIXTEEN, Awkward, Refusing, is_alike, kinds_of, model_go, nested, other_things, shuffled,
)
from twonames.alone import alone
from twonames.errors import NoHearers, NoLetter, NoRow
from twonames.healing import healing
from twonames.hearers import all_alone, all_needs
from twonames.prices import needs

ABC = tuple("abc")
# Of the row a b c.
NO_HEARERS = [
    [], [ABC] * 5, [ABC] * 200, (ABC,), (ABC, ABC), (), ABC, "abc", ["abc"], [list("abc")], [ABC, list("cab")],
    [ABC, "cab"], [ABC, None], [None], [()], [("a", "b")], [tuple("abcd")], [tuple("abd")], [ABC, tuple("abd")],
    [tuple("aab")], [tuple("abca")], [ABC, ()], [("a",)], [(ABC,)], [[ABC]], [ABC, [ABC]], [(ABC, ABC)],
    [("A", "b", "c")], [("ab", "c")], {}, {ABC: 1}, {ABC}, None, 0, 1, True, "", iter([ABC]), [Awkward()],
    [ABC, Awkward()], Awkward(), [nested(tuple)], [nested(list)], [ABC, ABC, ABC, None], [ABC, ABC, ABC, ABC, None],
]


def hearers_of(row, turn, many):
    return [shuffled(row, turn * 5 + at) for at in range(many)]


def rows_behind(rows, events):
    """All rows behind the same events, the teller's first; the hearers all hear them without faults."""
    pairs = [model_go((rows[0], heard), events)[0] for heard in rows[1:]]
    return [pairs[0][0]] + [pair[1] for pair in pairs]


def stands_in(part, row):
    return part == tuple(x for x in row if x in part)


def model_alone(row, hearers):
    """All parts of the row gone through."""
    for many in range(len(row), 0, -1):
        kept = [part for part in combinations(row, many) if all(stands_in(part, heard) for heard in hearers)]
        if kept:
            return sorted(set(row) - set(min(kept)))


def moved_needs(row, hearers, text):
    """The numbers by rows moved letter by letter: a name where any of the hearers writes a place otherwise."""
    found, rows = [], [row] + hearers
    for number, letter in enumerate(text):
        place = rows[0].index(letter)
        event = ("place", place)
        if any(heard[place] != letter for heard in rows[1:]):
            found.append(number)
            event = ("name", letter)
        rows = rows_behind(rows, [event])
    return found


class Alone(unittest.TestCase):
    def check(self, row, hearers):
        told = all_alone(row, hearers)
        self.assertIs(type(told), list)
        self.assertEqual(told, model_alone(row, hearers), (row, hearers))
        names = [("name", x) for x in told]
        self.assertEqual(set(rows_behind([row] + hearers, names)), {rows_behind([row] + hearers, names)[0]})

    def test_two_hearers_of_three_letters(self):
        for row in permutations("abc"):
            for hearers in product(permutations("abc"), repeat=2):
                self.check(row, list(hearers))

    def test_no_fewer_names_do(self):
        for turn in range(30):
            row = shuffled("abcde", turn)
            hearers = hearers_of(row, turn, 1 + turn % 4)
            rows = [row] + hearers
            told = all_alone(row, hearers)
            for letters in combinations(sorted(row), max(0, len(told) - 1)):
                if told:
                    self.assertGreater(len(set(rows_behind(rows, [("name", x) for x in letters]))), 1)

    def test_few_letters_gone_through(self):
        for turn in range(120):
            row = shuffled("bxdzfac"[:1 + turn % 7], turn)
            for many in range(1, 5):
                self.check(row, hearers_of(row, turn + many, many))

    def test_one_hearer_is_a_pair(self):
        for turn in range(60):
            pair = shuffled(SIXTEEN, turn), shuffled(SIXTEEN, turn + 60)
            self.assertEqual(all_alone(pair[0], [pair[1]]), alone(pair)[0])

    def test_order_and_repeats_and_the_tellers_own_row_change_nothing(self):
        for turn in range(20):
            row = shuffled(SIXTEEN, turn)
            hearers = hearers_of(row, turn, 3)
            told = all_alone(row, hearers)
            for order in permutations(hearers):
                self.assertEqual(all_alone(row, list(order)), told)
            self.assertEqual(all_alone(row, hearers + [row]), told)
            self.assertEqual(all_alone(row, hearers + hearers[:1]), told)
            self.assertEqual(all_alone(row, hearers[:1] * 4), all_alone(row, hearers[:1]))
            self.assertEqual(all_alone(row, [row]), [])

    def test_sixteen_letters(self):
        for turn in range(4):
            row = shuffled(SIXTEEN, turn)
            for many in range(1, 5):
                self.check(row, hearers_of(row, turn, many))
        self.assertEqual(all_alone(SIXTEEN, [SIXTEEN] * 4), [])
        self.assertEqual(all_alone(SIXTEEN, [SIXTEEN, SIXTEEN[::-1]]), list(SIXTEEN[1:]))
        near = [SIXTEEN[1:] + SIXTEEN[:1], SIXTEEN[15:] + SIXTEEN[:15], tuple("abcdefghjiklmnop")]
        self.assertEqual(all_alone(SIXTEEN, near), ["a", "j", "p"])

    def test_by_example(self):
        for row, hearers, letters in [
            ("a", ["a"], ""), ("abc", ["abc"], ""), ("abc", ["bca", "cab"], "bc"), ("abc", ["acb", "bac"], "b"),
            ("abcd", ["abdc", "acbd"], "c"), ("cbad", ["adcb", "cbad"], "bc"), ("abcd", ["dcba"], "bcd"),
            ("cabd", ["bdca", "bdca"], "ac"),
        ]:
            told = all_alone(tuple(row), [tuple(heard) for heard in hearers])
            self.assertEqual(told, list(letters), (row, hearers))


class Needs(unittest.TestCase):
    def check(self, row, hearers, text):
        told = all_needs(row, hearers, text)
        self.assertIs(type(told), list)
        self.assertEqual(told, moved_needs(row, hearers, text), (row, hearers, text))

    def test_two_hearers_of_three_letters(self):
        for hearers in product(permutations("abc"), repeat=2):
            for text in permutations("abc"):
                self.check(ABC, list(hearers), list(text))

    def test_further_letters_and_hearers(self):
        for turn in range(60):
            row = shuffled(SIXTEEN[:1 + turn % 16], turn)
            hearers = hearers_of(row, turn, 1 + turn % 4)
            for text in [[], list(row), list(row) * 2, list(shuffled(row * 3, turn)), [row[-1]] * 5]:
                self.check(row, hearers, text)

    def test_sixteen_letters_and_two_hundred_told(self):
        row = shuffled(SIXTEEN, 3)
        self.check(row, hearers_of(row, 3, 4), list(shuffled(row * 13, 2))[:200])

    def test_where_any_one_needs_it(self):
        for turn in range(40):
            row = shuffled(SIXTEEN, turn)
            hearers = hearers_of(row, turn, 4)
            text = list(shuffled(row * 2, turn))
            each = [needs((row, heard), text) for heard in hearers]
            self.assertEqual(all_needs(row, hearers, text), sorted({number for told in each for number in told}))
            self.assertEqual(all_needs(row, hearers[2:3], text), each[2])

    def test_order_and_repeats_and_the_tellers_own_row_change_nothing(self):
        row = shuffled(SIXTEEN, 9)
        hearers = hearers_of(row, 9, 3)
        text = list(shuffled(row * 2, 9))
        told = all_needs(row, hearers, text)
        for order in permutations(hearers):
            self.assertEqual(all_needs(row, list(order), text), told)
        self.assertEqual(all_needs(row, hearers + [row], text), told)
        self.assertEqual(all_needs(row, hearers + hearers[1:2], text), told)
        self.assertEqual(all_needs(row, [row] * 4, text), [])

    def test_named_so_all_hear_it_right(self):
        for turn in range(20):
            row = shuffled(SIXTEEN, turn)
            hearers = hearers_of(row, turn, 4)
            text = list(shuffled(row * 2, turn))
            numbers, rows = all_needs(row, hearers, text), [row] + hearers
            for number, letter in enumerate(text):
                event = ("name", letter) if number in numbers else ("place", rows[0].index(letter))
                for heard in rows[1:]:
                    self.assertEqual(model_go((rows[0], heard), [event])[2], [letter])
                rows = rows_behind(rows, [event])


class Together(unittest.TestCase):
    def test_names_of_the_told_letters_heal_each_pair(self):
        for turn in range(30):
            row = shuffled(SIXTEEN, turn)
            hearers = hearers_of(row, turn, 1 + turn % 4)
            for order in [all_alone(row, hearers), all_alone(row, hearers)[::-1]]:
                for heard in hearers:
                    self.assertTrue(is_alike(model_go((row, heard), [("name", x) for x in order])[0]))

    def test_two_names_heal_one_pair_but_need_not_heal_all(self):
        row, hearers = tuple("abcd"), [tuple("badc"), tuple("dcba")]
        events = healing((row, hearers[0]))
        self.assertLessEqual(kinds_of(events).count("name"), 2)
        self.assertTrue(is_alike(model_go((row, hearers[0]), events)[0]))


class Refused(Refusing, unittest.TestCase):
    def test_no_row(self):
        for thing in NO_ROWS + other_things():
            self.refused(NoRow, all_alone, thing, [("a",)])
            self.refused(NoRow, all_needs, thing, [("a",)], ["a"])

    def test_no_hearers(self):
        for thing in NO_HEARERS:
            self.refused(NoHearers, all_alone, ABC, thing)
            self.refused(NoHearers, all_needs, ABC, thing, [])
        for thing in NO_ROWS + NO_PAIRS + other_things():
            self.refused(NoHearers, all_alone, tuple("xyz"), [thing])
            self.refused(NoHearers, all_alone, tuple("xyz"), [tuple("zyx"), thing])
            self.refused(NoHearers, all_needs, tuple("xyz"), [thing, tuple("zyx")], ["x"])
            self.refused(NoHearers, all_needs, tuple("xyz"), thing, ["x"])

    def test_one_to_four(self):
        for many in range(8):
            if 1 <= many <= 4:
                self.assertEqual(all_alone(ABC, [ABC] * many), [])
                self.assertEqual(all_needs(ABC, [ABC] * many, ["c"]), [])
            else:
                self.refused(NoHearers, all_alone, ABC, [ABC] * many)
                self.refused(NoHearers, all_needs, ABC, [ABC] * many, ["c"])

    def test_no_letters(self):
        self.letters_refused(lambda word, thing: all_needs(tuple(word), [tuple(word)], thing))
        self.letters_refused(lambda word, thing: all_needs(tuple(word), [tuple(word[::-1])] * 4, thing))

    def test_in_the_order_of_what_is_handed_in(self):
        for row in NO_ROWS + other_things():
            for thing in [None, [], [("b",)], [ABC]]:
                self.refused(NoRow, all_alone, row, thing)
                self.refused(NoRow, all_needs, row, thing, None)
                self.refused(NoRow, all_needs, row, thing, ["a"])
        for thing in NO_HEARERS:
            self.refused(NoHearers, all_needs, ABC, thing, ["?"])
            self.refused(NoHearers, all_needs, ABC, thing, None)
        self.refused(NoLetter, all_needs, ABC, [ABC], ["?"])


if __name__ == "__main__":
    unittest.main()
