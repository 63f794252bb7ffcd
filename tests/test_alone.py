"""Points [12] and [13]: names alone, nothing between."""

import unittest
from itertools import combinations, permutations

from tests.helpers import (
    NO_LETTERS, NO_PAIRS, SIXTEEN, Refusing, is_alike, model_go, model_reading, other_things, pair_of, pairs_of,
    shuffled,
)
from twonames.alone import alone, can_heal
from twonames.errors import NoLetter, NoPair


def names_of(letters):
    return [("name", x) for x in letters]


def common_rows(pair):
    """Every row, the empty one too, that stands in both rows of a pair in one order."""
    found = [()]
    for letter in pair[0]:
        found += [row + (letter,) for row in found if not row or pair[1].index(row[-1]) < pair[1].index(letter)]
    return found


def model_kept(pair):
    rows = common_rows(pair)
    longest = max(map(len, rows))
    return min(row for row in rows if len(row) == longest)


def fewest_gone_through(pair):
    """The fewest letters whose names alone make the rows alike."""
    for many in range(len(pair[0]) + 1):
        if any(is_alike(model_go(pair, names_of(some))[0]) for some in combinations(pair[0], many)):
            return many


class Behind(unittest.TestCase):
    """What (12) says of go: names are told by it as by the program."""

    def test_named_letters_are_read_right_and_the_others_stand_as_they_stood(self):
        for pair in [pair_of("abcd", "dbca"), pair_of("bdac", "cdab"), (SIXTEEN, SIXTEEN[::-1])]:
            for letters in ["", "b", "cb", "bcb", "ddacad", "abcd"]:
                told, heard = model_go(pair, names_of(letters))[0]
                many = len(set(letters))
                self.assertEqual(told[:many], heard[:many])
                self.assertEqual(told[many:], tuple(x for x in pair[0] if x not in letters))
                self.assertEqual(heard[many:], tuple(x for x in pair[1] if x not in letters))


class Fewest(unittest.TestCase):
    def check(self, pair):
        told = alone(pair)
        self.assertEqual((type(told), len(told)), (tuple, 2))
        letters, lots = told
        kept = model_kept(pair)
        self.assertEqual(letters, sorted(set(pair[0]) - set(kept)), pair)
        self.check_lots(pair, lots, len(kept))

    def check_lots(self, pair, lots, many):
        told, heard = pair
        self.assertIs(type(lots), list)
        self.assertEqual([type(lot) for lot in lots], [tuple] * many)
        self.assertEqual(sorted(x for lot in lots for x in lot), sorted(told))
        self.assertNotIn((), lots)
        firsts = [lot[0] for lot in lots]
        self.assertEqual(firsts, sorted(firsts))
        for lot in lots:
            for one, other in combinations(lot, 2):
                self.assertLess(told.index(one), told.index(other), (pair, lot))
                self.assertGreater(heard.index(one), heard.index(other), (pair, lot))

    def test_by_example(self):
        for told, heard, letters in [
            ("a", "a", ""), ("ab", "ba", "b"), ("ba", "ab", "b"), ("abc", "bca", "a"), ("cab", "abc", "c"),
            ("abcd", "badc", "bd"), ("badc", "abcd", "bd"), ("dcba", "cdab", "bd"), ("abcd", "cdab", "cd"),
            ("cdab", "abcd", "cd"), ("zyx", "xzy", "x"), ("abcdef", "fabcde", "f"),
        ]:
            self.assertEqual(alone(pair_of(told, heard))[0], list(letters), (told, heard))

    def test_lots_by_example(self):
        self.assertEqual(alone(pair_of("x", "x")), ([], [("x",)]))
        self.assertEqual(alone(pair_of("ba", "ab")), (["b"], [("b", "a")]))
        self.assertEqual(alone(pair_of("ba", "ba")), ([], [("a",), ("b",)]))
        self.assertEqual(alone(pair_of("dcba", "cdab")), (["b", "d"], [("b", "a"), ("d", "c")]))

    def test_every_pair_of_up_to_four_letters(self):
        for letters in ["a", "bx", "abc", "cdxz"]:
            for pair in pairs_of(letters):
                self.check(pair)
                self.assertEqual(len(alone(pair)[0]), fewest_gone_through(pair))

    def test_pairs_of_five_and_six_letters(self):
        for letters in ["xbcqe", "fedabc"]:
            for turn, heard in enumerate(permutations(letters)):
                self.check((shuffled(letters, turn), heard))
        for turn in range(30):
            pair = shuffled("abcdef", turn), shuffled("abcdef", turn + 30)
            self.assertEqual(len(alone(pair)[0]), fewest_gone_through(pair))

    def test_rows_alike(self):
        for row in ["a", "cab", "hgfedcba", SIXTEEN, SIXTEEN[::-1]]:
            self.assertEqual(alone(pair_of(row, row)), ([], [(x,) for x in sorted(row)]))

    def test_one_row_from_behind(self):
        for row in ["ba", "cabd", SIXTEEN, SIXTEEN[::-1], shuffled(SIXTEEN, 3)]:
            row = tuple(row)
            self.assertEqual(alone((row, row[::-1])), (sorted(row)[1:], [row]))

    def test_the_least_of_several_longest_rows(self):
        swapped = tuple("badcfehgjilknmpo")
        self.assertEqual(alone((SIXTEEN, swapped))[0], list("bdfhjlnp"))
        self.assertEqual(alone((swapped, SIXTEEN))[0], list("bdfhjlnp"))
        self.assertEqual(alone((SIXTEEN, SIXTEEN[8:] + SIXTEEN[:8]))[0], list("ijklmnop"))
        self.assertEqual(alone((SIXTEEN[8:] + SIXTEEN[:8], SIXTEEN))[0], list("ijklmnop"))
        self.assertEqual(alone(pair_of("cbad", "adcb"))[0], ["b", "c"])
        # As tuples: b d is less than c a, though the letters a and c, rising, are less than b and d.
        self.assertEqual(alone(pair_of("cabd", "bdca"))[0], ["a", "c"])
        self.assertEqual(alone(pair_of("bdca", "cabd"))[0], ["a", "c"])

    def test_sixteen_letters(self):
        swapped = tuple("badcfehgjilknmpo")
        for pair in [(SIXTEEN, swapped), (SIXTEEN, SIXTEEN[::-1]), (SIXTEEN, SIXTEEN[5:] + SIXTEEN[:5])]:
            self.check(pair)
        for turn in range(60):
            self.check((shuffled(SIXTEEN, turn), shuffled(SIXTEEN, turn + 60)))

    def test_names_of_the_told_letters_in_any_order_make_the_rows_alike(self):
        for pair in pairs_of("abcd"):
            letters = alone(pair)[0]
            for order in permutations(letters):
                self.assertTrue(is_alike(model_go(pair, names_of(order))[0]))
                self.assertTrue(is_alike(model_go(pair, names_of(order + order[:1]))[0]))
        for turn in range(20):
            pair = shuffled(SIXTEEN, turn), shuffled(SIXTEEN, turn + 60)
            letters = alone(pair)[0]
            for order in [letters, letters[::-1], shuffled(letters, turn)]:
                self.assertTrue(is_alike(model_go(pair, names_of(order))[0]))
            self.assertIs(can_heal(pair, letters), True)


class CanHeal(unittest.TestCase):
    def check(self, pair, letters):
        said = is_alike(model_go(pair, names_of(letters))[0])
        self.assertIs(can_heal(pair, list(letters)), said, (pair, letters))

    def test_every_list_of_letters_of_three(self):
        for pair in pairs_of("abc"):
            for many in range(4):
                for letters in permutations("abc", many):
                    self.check(pair, letters)

    def test_every_choice_of_letters_of_five(self):
        for heard in permutations("abcde"):
            for many in range(6):
                for letters in combinations("badec", many):
                    self.check((tuple("cabed"), heard), letters)

    def test_no_letter_and_all_letters(self):
        for pair in pairs_of("abc"):
            self.assertIs(can_heal(pair, []), pair[0] == pair[1])
            for letters in permutations("abc"):
                self.assertIs(can_heal(pair, list(letters)), True)

    def test_a_letter_twice_is_as_once(self):
        for pair in pairs_of("abc"):
            for letters in ["aa", "aba", "cc", "bccb", "aabbcc"]:
                self.check(pair, letters)
                self.assertIs(can_heal(pair, list(letters)), can_heal(pair, sorted(set(letters))))

    def test_by_example(self):
        pair = pair_of("abcd", "badc")
        for letters, said in [
            ("bd", True), ("db", True), ("ac", True), ("ad", True), ("bc", True), ("abc", True), ("ab", False),
            ("cd", False), ("a", False), ("", False), ("abcd", True), ("bdb", True),
        ]:
            self.assertIs(can_heal(pair, list(letters)), said, letters)

    def test_a_name_may_make_a_letter_wrong_that_was_right(self):
        pair = pair_of("abc", "cba")
        self.assertEqual(model_reading(pair)["b"], "b")
        behind = model_go(pair, [("name", "a")])[0]
        self.assertEqual(model_reading(behind)["b"], "c")
        self.assertIs(can_heal(pair, ["a"]), False)
        self.assertIs(can_heal(pair_of("abc", "abc"), ["b"]), True)

    def test_sixteen_letters_and_two_hundred_names(self):
        pair = SIXTEEN, SIXTEEN[::-1]
        for many in range(17):
            self.assertIs(can_heal(pair, list(SIXTEEN[:many])), many >= 15)
        self.assertIs(can_heal(pair, list(SIXTEEN[:15] * 14)[:200]), True)
        self.assertIs(can_heal(pair, list(SIXTEEN[:14] * 15)[:200]), False)


class Refused(Refusing, unittest.TestCase):
    def test_no_pair(self):
        for thing in NO_PAIRS + other_things():
            self.refused(NoPair, alone, thing)
            self.refused(NoPair, can_heal, thing, [])
            self.refused(NoPair, can_heal, thing, ["a"])

    def test_no_letters(self):
        for thing in NO_LETTERS:
            self.refused(NoLetter, can_heal, pair_of("abc", "bca"), thing)
        for thing in other_things():
            self.refused(NoLetter, can_heal, pair_of("xyz", "yzx"), thing)
            self.refused(NoLetter, can_heal, pair_of("xyz", "yzx"), [thing])
            self.refused(NoLetter, can_heal, pair_of("xyz", "yzx"), ["x", thing])

    def test_no_letters_also_where_the_rows_are_alike(self):
        self.refused(NoLetter, can_heal, pair_of("abc", "abc"), ["d"])
        self.refused(NoLetter, can_heal, pair_of("abc", "abc"), ["a", "b", "c", "d"])

    def test_no_pair_goes_ahead_of_no_letters(self):
        for pair in NO_PAIRS + other_things():
            for letters in [None, (), ["?"], [None], "a"]:
                self.refused(NoPair, can_heal, pair, letters)


if __name__ == "__main__":
    unittest.main()
