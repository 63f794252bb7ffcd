"""Point [28]: rows, pairs, events and rings written, and read back."""

import unittest
from itertools import permutations

from tests.helpers import (
    ALPHABET, NO_EVENTS_OF_ABC, NO_PAIRS, NO_RINGS, NO_ROWS, SIXTEEN, Awkward, AwkwardList, AwkwardNumber, AwkwardText,
    AwkwardTuple, Refusing, events_of, many_events, model_reading, model_rings, nested, other_things, pair_of, pairs_of,
    shuffled, told_rings, within_itself,
)
from twonames.errors import NoEvents, NoPair, NoRings, NoRow, NoText
from twonames.readings import rings
from twonames.rows import go
from twonames.texts import (
    read_events, read_pair, read_rings, read_row, show_events, show_pair, show_rings, show_row,
)

READERS = (read_row, read_pair, read_events, read_rings)
NO_TEXTS = [
    None, True, False, 0, 1, -1, 1.5, b"", b"a", b"a/a", b"()", b"p", (), ("a",), (("a",), ("a",)), [], ["a"], ["1"],
    [("a", "b")], {}, {"a": 1}, {"a"}, set(), range(2), iter("a"), object(), len, str, Awkward(), AwkwardText("a"),
    AwkwardText("a/a"), AwkwardText("1"), AwkwardText("()"), AwkwardTuple(("a",)), AwkwardNumber(1), nested(tuple),
    nested(list), nested(list, "a"), within_itself(), ("place", 1), [("place", 1)],
]
NO_ROW_TEXTS = [
    "", " ", "A", "aB", "aa", "aba", "abcda", "a b", " a", "a ", "a\n", "\na", "a/b", "a/a", "ab/ba", "()", "(ab)", "1",
    "a1", "=a", "-", "_", "`", "{", "@", "[", "a-b", "a,b", "\u00e4", "\uff41", "\u0430", "abcdefghijklmnopq", ALPHABET,
    ALPHABET * 100, "a" * 3000, "z" * 2, "~", "!", "abcdefghijklmnoP", "\x00", "a\x00",
]
NO_PAIR_TEXTS = [
    "", " ", "/", "//", "a", "ab", "a/", "/a", "a//a", "a/a/", "/a/a", "a/a/a", "a/b", "ab/a", "a/ab", "ab/ac", "aa/aa",
    "ab/aa", "aba/aba", "a /a", "a/ a", " a/a", "a/a ", "a / a", "a\\a", "a|a", "a-a", "A/A", "a/A", "ab/bA", "1/1",
    "a/a\n", "abcdefghijklmnopq/abcdefghijklmnopq", "abc/abd", "abc/ab", "(a)/(a)", "a\u2044a", "/" * 3000,
]
NO_EVENT_TEXTS = [
    " ", "  ", "1 ", " 1", "1  2", "1 2 ", "1\t2", "1\n2", "1\n", "1,2", "1, 2", "16", "17", "20", "99", "100", "-16",
    "+16", "0~16", "16~0", "00", "01", "07", "007", "015", "-00", "-01", "+00", "+07", "00~1", "0~01", "01~0", "1 02",
    "~", "1~", "~1", "1~1", "0~0", "15~15", "1~2~3", "1~~2", "~1~2", "1~-2", "-1~2", "+1~2", "1 ~ 2", "1~ 2", "1 ~2",
    "-", "+", "=", "--1", "++1", "+-1", "-+1", "==a", "=a=", "=ab", "=A", "=1", "= a", "=a ", "a", "abc", "p1", "p",
    "-a", "+a", "a~b", "=a~b", "1=a", "a=", "1-", "1+", "1=", "- 1", "+ 1", "=", "=`", "={", "=_", "=\u00e4", "=\uff41",
    "\u0661", "\uff11", "-\u0661", "\u00b2", "1.0", "1e1", "0x1", "1_0", "1_", "_1", "1/2", "()", "(ab)", "a/a", "p 1",
    "-1+1", "1 2 =a -3 +4 5~6 x", "\u22121", "1 =", "10 16", "- ", "=a=b", "1~2 3~3", "15 0 1 -15 +16", "\x00", "1\x00",
    "1" * 3000, " " * 3000, "-" * 3000, "~" * 3000, "1 " * 1500, "True", "None",
]
NO_RING_TEXTS = [
    "", " ", "(", ")", ")(", "(a)", "(aa)", "(ab", "ab)", "ab", "(ab))", "((ab)", "((ab))", "(ab)(", "(ab))(cd)",
    "(ab)()", "()(ab)", "()()", "( )", "(ab) (cd)", " (ab)", "(ab) ", "(a b)", "(ba)", "(bca)", "(cab)", "(cd)(ab)",
    "(ab)(dc)",
    "(bc)(ad)", "(ab)(bc)", "(ab)(ac)", "(ab)(ab)", "(aba)", "(abb)", "(ab)(cdc)", "(AB)", "(aB)", "(a1)", "(12)",
    "[ab]", "{ab}", "<ab>",
    "(ab](cd)", "(ab)(cd", "ab)(cd", "ab)(cd)", "(ab)cd)", "(ab)[cd]", "(a,b)", "(a)(bc)", "(ab)(c)",
    "xabx", "(ab)x", "x(ab)", "(ab)\n", "\n(ab)", "xabcdx", "abc", "-ab-", "(ab)(cd)(ef)(", "(abcdefghijklmnopq)",
    "(" + ALPHABET + ")", "(abcdefgh)(ijklmnop)(qr)", "(ab)(cd)(ef)(gh)(ij)(kl)(mn)(op)(qr)", "(\u00e4b)", "()" * 1500,
    "(" * 3000, "(" + "ab" * 1400 + ")", "a/a", "1", "=a", "(ab)\x00", "(ab)()(cd)", "((ab)(cd))", "(ab)((cd)",
]
NO_EVENTS_OF_SIXTEEN = [
    ("place", 16), ("place", -1), ("place", 99), ("lost", 16), ("twice", 16), ("as", 0, 16), ("as", 16, 0),
    ("as", 3, 3), ("name", "A"), ("name", "ab"), ("name", ""), ("name", "1"), ("name", "\u00e4"), ("new", "a"),
    ("lostnew", "a"),
    ("named", 0, "a"), ("place", True), ("lost", False), ("as", True, 0), ("place", "1"), "1", "=a",
]


class Rows(Refusing, unittest.TestCase):
    def check(self, row):
        text = "".join(row)
        self.assertEqual(show_row(row), text)
        self.assertEqual(read_row(text), row)
        self.assertEqual((type(show_row(row)), type(read_row(text))), (str, tuple))

    def test_written_and_read_back(self):
        for letter in ALPHABET:
            self.check((letter,))
        for row in permutations("bxdz"):
            self.check(row)
        for turn in range(60):
            self.check(shuffled(ALPHABET, turn)[:1 + turn % 16])

    def test_no_row_is_written(self):
        for thing in NO_ROWS + other_things():
            self.refused(NoRow, show_row, thing)

    def test_no_text_of_a_row(self):
        for thing in NO_ROW_TEXTS:
            self.refused(NoText, read_row, thing)


class Pairs(Refusing, unittest.TestCase):
    def check(self, pair):
        text = "".join(pair[0]) + "/" + "".join(pair[1])
        self.assertEqual(show_pair(pair), text)
        self.assertEqual(read_pair(text), pair)
        self.assertEqual([type(part) for part in (text, read_pair(text)) + read_pair(text)], [str, tuple, tuple, tuple])

    def test_written_and_read_back(self):
        for pair in pairs_of("a") + pairs_of("bx") + pairs_of("abc") + [(SIXTEEN, SIXTEEN), (SIXTEEN, SIXTEEN[::-1])]:
            self.check(pair)
        for turn in range(60):
            row = shuffled(ALPHABET, turn)[:1 + turn % 16]
            self.check((row, shuffled(row, turn + 60)))
        self.assertEqual(show_pair(pair_of("cab", "bca")), "cab/bca")

    def test_no_pair_is_written(self):
        for thing in NO_PAIRS + other_things():
            self.refused(NoPair, show_pair, thing)

    def test_no_text_of_a_pair(self):
        for thing in NO_PAIR_TEXTS:
            self.refused(NoText, read_pair, thing)


def model_words(events):
    words = []
    for kind, *things in events:
        sign = {"place": "", "name": "=", "lost": "-", "twice": "+", "as": ""}[kind]
        words.append(sign + "~".join(str(thing) for thing in things))
    return " ".join(words)


class Events(Refusing, unittest.TestCase):
    def check(self, events):
        text = show_events(events)
        self.assertEqual((type(text), text), (str, model_words(events)))
        self.assertEqual(read_events(text), events)
        self.assertEqual([type(event) for event in read_events(text)], [tuple] * len(events))

    def test_each_event_by_itself(self):
        for event in events_of(SIXTEEN) + [("name", x) for x in ALPHABET]:
            self.check([event])

    def test_by_example(self):
        for events, text in [
            ([], ""), ([("place", 0)], "0"), ([("place", 15)], "15"), ([("name", "z")], "=z"), ([("lost", 0)], "-0"),
            ([("twice", 10)], "+10"), ([("as", 3, 12)], "3~12"), ([("as", 12, 3)], "12~3"),
            ([("place", 2), ("name", "a"), ("lost", 3), ("twice", 4), ("as", 5, 6)], "2 =a -3 +4 5~6"),
        ]:
            self.assertEqual(show_events(events), text)
            self.assertEqual(read_events(text), events)

    def test_none(self):
        self.check([])
        self.assertEqual(show_events([]), "")
        self.assertIsNot(read_events(""), read_events(""))

    def test_lists_of_all_kinds(self):
        self.check(events_of(SIXTEEN))
        self.check(many_events(SIXTEEN, 200))
        for turn in range(30):
            row = shuffled(ALPHABET, turn)[:1 + turn % 16]
            self.check(many_events(row, 3 * turn))
            self.check(many_events(row, 3 * turn, names=False))

    def test_long_texts(self):
        self.check([("as", 10, 15)] * 500)
        self.assertEqual(len(show_events([("as", 10, 15)] * 500)), 2999)
        self.check([("place", 1)] * 1500)

    def test_no_events_are_written(self):
        for thing in NO_EVENTS_OF_SIXTEEN:
            self.refused(NoEvents, show_events, [thing])
            self.refused(NoEvents, show_events, [("place", 1), thing])
            self.refused(NoEvents, show_events, [thing, ("name", "a")])
        of_sixteen = {repr(event) for event in events_of(SIXTEEN) + [("name", x) for x in ALPHABET]}
        for thing in NO_EVENTS_OF_ABC:
            if repr(thing) not in of_sixteen:
                self.refused(NoEvents, show_events, [thing])
        for thing in other_things():
            self.refused(NoEvents, show_events, thing)
            self.refused(NoEvents, show_events, [thing])
        for thing in [(("place", 0),), ("place", 0), (), "", "1", None, {}, iter([]), AwkwardList([("place", 0)])]:
            self.refused(NoEvents, show_events, thing)

    def test_no_text_of_events(self):
        for thing in NO_EVENT_TEXTS:
            self.refused(NoText, read_events, thing)

    def test_each_place_has_one_writing(self):
        for number in range(-20, 120):
            word = str(number)
            for text in {word, word.zfill(2), word.zfill(3), "+" + word, " " + word, word + ".", word + " "}:
                try:
                    self.assertEqual(show_events(read_events(text)), text)
                except NoText:
                    self.assertFalse(text in [str(place) for place in range(16)])


class Rings(Refusing, unittest.TestCase):
    def check(self, wished):
        text = "".join("(" + "".join(ring) + ")" for ring in wished) or "()"
        self.assertEqual(show_rings(wished), text)
        self.assertEqual(read_rings(text), wished)
        self.assertEqual([type(show_rings(wished)), type(read_rings(text))], [str, list])
        self.assertEqual([type(ring) for ring in read_rings(text)], [tuple] * len(wished))

    def test_none(self):
        self.check([])
        self.assertEqual(show_rings([]), "()")
        self.assertIsNot(read_rings("()"), read_rings("()"))

    def test_by_example(self):
        for words in ["ab", "az", "yz", "abc", "acb", "abc de", "ad be cf", "abcdefgh ijklmnop", "kzyxwvutsrqponml"]:
            self.check(told_rings(words))
        self.assertEqual(show_rings(told_rings("abc de")), "(abc)(de)")

    def test_the_rings_of_pairs(self):
        for letters in ["a", "bx", "abc", "cdxz", "abxyz"]:
            for heard in permutations(letters):
                self.check(rings((tuple(letters), heard)))
        for turn in range(60):
            row = shuffled(ALPHABET, turn)[:1 + turn % 16]
            self.check(model_rings(model_reading((row, shuffled(row, turn + 60)))))

    def test_no_rings_are_written(self):
        outside = [told_rings("af"), told_rings("fg"), told_rings("ab fg")]
        for thing in NO_RINGS:
            if thing not in outside:
                self.refused(NoRings, show_rings, thing)
        for thing in other_things():
            for wished in (thing, [thing], [("a", "b"), thing], [("a", thing)]):
                self.refused(NoRings, show_rings, wished)
        for words in ["ba", "cd ab", "ab bc", "a", "ab c", "abcdefghijklmnopq", ALPHABET, "abcdefgh ijklmnop qr"]:
            self.refused(NoRings, show_rings, told_rings(words))

    def test_no_text_of_rings(self):
        for thing in NO_RING_TEXTS:
            self.refused(NoText, read_rings, thing)


class Texts(Refusing, unittest.TestCase):
    def test_what_is_no_text(self):
        for asked in READERS:
            for thing in NO_TEXTS:
                self.refused(NoText, asked, thing)
            for thing in other_things():
                if type(thing) is not str:
                    self.refused(NoText, asked, thing)

    def test_each_text_is_of_its_own_kind(self):
        texts = [
            show_row(tuple("cab")), show_pair(pair_of("cab", "bca")), show_events([("place", 1), ("name", "a")]),
            show_rings(told_rings("ab cd")),
        ]
        for asked in READERS:
            for text in texts:
                if READERS.index(asked) != texts.index(text):
                    self.refused(NoText, asked, text)

    def near(self, text):
        """Texts with a sign out, a sign twice, a sign otherwise, or two signs exchanged."""
        for at in range(len(text)):
            ahead, sign, later = text[:at], text[at], text[at + 1:]
            yield ahead + later
            yield ahead + sign * 2 + later
            for other in " /()=~+-0159aZ,":
                yield ahead + other + later
                yield ahead + other + sign + later
            if later:
                yield ahead + later[0] + sign + later[1:]

    def test_texts_that_are_nearly_writings_are_none_or_write_what_is_read(self):
        shows = (show_row, show_pair, show_events, show_rings)
        for show, read, things in zip(shows, READERS, [
            [tuple("cab"), SIXTEEN], [pair_of("a", "a"), pair_of("cab", "bca"), (SIXTEEN, SIXTEEN[::-1])],
            [many_events(SIXTEEN, 20), [("as", 1, 10)], []], [told_rings("ab"), told_rings("ace bfd"), []],
        ]):
            for thing in things:
                refused = 0
                for text in self.near(show(thing)):
                    try:
                        told = read(text)
                    except NoText:
                        refused += 1
                    else:
                        self.assertEqual(show(told), text)
                if show(thing):
                    self.assertGreater(refused, 0)

    def test_what_is_told_is_written_and_read_back(self):
        pair = (SIXTEEN, SIXTEEN[3:] + SIXTEEN[:3])
        events = many_events(SIXTEEN, 100)
        behind = go(read_pair(show_pair(pair)), read_events(show_events(events)))[0]
        self.assertEqual(behind, go(pair, events)[0])
        self.assertEqual(read_rings(show_rings(rings(behind))), rings(behind))


if __name__ == "__main__":
    unittest.main()
