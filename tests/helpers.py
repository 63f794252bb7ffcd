"""What several test files need: pairs and events to go through, and a model.

The model is written apart from the program: with lists, and with one branch
for each kind of event, straight from the words of the document.
"""

from itertools import permutations

from twonames.errors import NoEvents, NoLetter

SIXTEEN = tuple("abcdefghijklmnop")
ALPHABET = "abcdefghijklmnopqrstuvwxyz"

NO_ROWS = [
    ["a", "b"], "ab", {"a": 1, "b": 2}, {"a", "b"},
    ("a", "a"), ("a", "b", "a"), SIXTEEN[:15] + ("a",),
    (), tuple("abcdefghijklmnopq"), tuple(ALPHABET),
    ("A",), ("a", "B"), ("ab",), ("a", "bc"), ("",), ("a", ""),
    ("1",), ("`",), ("{",), (" ",), ("-",), ("a", "_"), ("\n",), ("a\n",), ("\u00e4",), ("\uff41",), ("\u0430",),
    (1,), (True,), (None,), (b"a",), ("a", 1), ("a", ("b",)), ("a", ["b"]), (("a", "b"),), ("a", None),
]

NO_PAIRS = [
    [("a", "b"), ("b", "a")], (["a", "b"], ["b", "a"]), (("a", "b"), ["b", "a"]), (["a", "b"], ("b", "a")),
    ("ab", "ba"), "ab/ba", ("a", "b"), ("a",), (("a",),), (("a",), ("a",), ("a",)), (),
    ((), ()), (("a",), ("b",)), (("a",), ("a", "b")), (("a", "b"), ("a",)), (("a", "b"), ("a", "c")),
    (("a", "a"), ("a", "a")), (("a", "b"), ("a", "a")), (("a", "b"), ("b", "b")),
    (("A",), ("A",)), (("ab",), ("ab",)), ((1,), (1,)), ((None,), (None,)), (("a",), None), (None, ("a",)),
    (tuple("abcdefghijklmnopq"), tuple("abcdefghijklmnopq")),
]

# Of a pair of the letters a to c.
NO_LETTERS = [
    ["d"], ["a", "d"], ["A"], ["ab"], [""], ["a", ""], [0], [1], [True], [None], ["a", None], [b"a"], [("a",)], [["a"]],
    [("name", "a")], [{"a"}], ("a",), ("a", "b"), (), "a", "abc", "", {"a"}, set(), {}, {"a": 1}, None, 0, True,
    iter("a"),
]

# Of a pair of three letters, a to c.
NO_EVENTS_OF_ABC = [
    ["place", 0], "place", ("place",), ("place", 0, 1), ("place", 3), ("place", -1), ("place", True), ("place", False),
    ("place", "a"), ("place", "0"), ("place", 0.0), ("place", None), ("place", 10 ** 29), ("place", -10 ** 29),
    ("lost",), ("lost", 0, 0), ("lost", 3), ("lost", -1), ("lost", True), ("lost", "a"), ["lost", 0],
    ("twice",), ("twice", 0, 0), ("twice", 3), ("twice", -1), ("twice", False), ("twice", "a"), ["twice", 0],
    ("as",), ("as", 0), ("as", 0, 1, 2), ("as", 0, 0), ("as", 2, 2), ("as", 0, 3), ("as", 3, 0), ("as", -1, 0),
    ("as", 0, -1), ("as", True, 0), ("as", 0, True), ("as", False, 1), ("as", 1, False), ("as", "a", "b"),
    ("as", 3, 3), ("as", (0, 1)), ["as", 0, 1],
    ("name",), ("name", "a", "b"), ("name", "d"), ("name", "A"), ("name", "ab"), ("name", ""), ("name", 0),
    ("name", ("a",)), ("name", ["a"]), ("name", None), ("name", b"a"), ["name", "a"], ("name", "a", 0),
    ("named", "a"), ("Place", 0), ("places", 0), ("place ", 0), ("new", "a"), ("", 0), (0, 0), (0,), (None, 0), (),
    (b"place", 0), (("place", 0),), (("place",), 0), ("place", 0, 1, 2, 3), ("a", 0), (0, "place"), ("a", "name"),
    ("place", 0, 1, 2), ("lost", 0, 0, 0), ("twice", 0, 1, 2), ("name", "a", "b", "c"), ("as", 0, 1, 0, 1),
]


def told_rings(text):
    """The rings of a text such as "abc de"."""
    return [tuple(word) for word in text.split()]


# Of a row of the letters a to e.
NO_RINGS = [
    told_rings("a"), told_rings("ab c"), [()], told_rings("ab") + [()],
    told_rings("ba"), told_rings("bca"), told_rings("cab"), told_rings("ab dc"), told_rings("dc ab"),
    told_rings("cd ab"), told_rings("bc ad"), told_rings("de ab"),
    told_rings("aa"), told_rings("aba"), told_rings("abb"), told_rings("abcdea"), told_rings("ab ab"),
    told_rings("ab bc"), told_rings("ab ac"), told_rings("abc cd"), told_rings("abc ce"),
    told_rings("af"), told_rings("fg"), told_rings("ab fg"), told_rings("aB"), told_rings("AB"),
    [("ab", "c")], [("a", "")], [("a", 1)], [("a", None)], [("a", True)], [(0, 1)], [("a", ("b",))], [("a", ["b"])],
    [("a", b"b")], [["a", "b"]], ["ab"], [{"a", "b"}], [{"a": 1, "b": 2}], [("a", "b"), ["c", "d"]], [("a", "b"), None],
    [("a", "b"), "cd"], [[("a", "b")]], [(("a", "b"),)],
    (("a", "b"),), ("a", "b"), (), "", "ab", "(ab)", None, {}, {("a", "b"): 1}, {("a", "b")}, 0, True, iter([]),
]


def pair_of(told, heard):
    return tuple(told), tuple(heard)


def pairs_of(letters):
    rows = list(permutations(letters))
    return [(told, heard) for told in rows for heard in rows]


def faults_of(row):
    places = range(len(row))
    return (
        [("lost", p) for p in places]
        + [("twice", p) for p in places]
        + [("as", p, q) for p in places for q in places if p != q]
    )


def nameless_of(row):
    return [("place", p) for p in range(len(row))] + faults_of(row)


def events_of(row):
    return nameless_of(row) + [("name", x) for x in row]


def take(row, place):
    row.insert(0, row.pop(place))
    return row[0]


def model_go(pair, events):
    told, heard = list(pair[0]), list(pair[1])
    said, written = [], []
    for event in events:
        kind = event[0]
        if kind == "name":
            said.append(take(told, told.index(event[1])))
            written.append(take(heard, heard.index(event[1])))
            continue
        said.append(take(told, event[1]))
        if kind == "place":
            written.append(take(heard, event[1]))
        elif kind == "twice":
            written.append(take(heard, event[1]))
            written.append(take(heard, event[1]))
        elif kind == "as":
            written.append(take(heard, event[2]))
    return (tuple(told), tuple(heard)), said, written


def model_reading(pair):
    return {letter: pair[1][at] for at, letter in enumerate(pair[0])}


def model_rings(next_of):
    """Rings by the words of (8), of a dict of each letter's next one."""
    found = []
    for first in sorted(next_of):
        ring = first
        while next_of[ring[-1]] != first:
            ring += next_of[ring[-1]]
        if len(ring) > 1 and first == min(ring):
            found.append(tuple(ring))
    return found


def model_fewest(row, gone, faults):
    """By pair, the fewest faults by which it comes from the row twice, places between, all gone through."""
    fewest, layer, many = {}, [(row, row)], 0
    while layer:
        for pair in layer:
            fewest.setdefault(pair, many)
            for at in range(len(row)):
                behind = gone(pair, [("place", at)])[0]
                if behind not in fewest:
                    fewest[behind] = many
                    layer.append(behind)
        later = {gone(pair, [fault])[0] for pair in layer for fault in faults}
        layer, many = [pair for pair in later if pair not in fewest], many + 1
    return fewest


def is_alike(pair):
    return pair[0] == pair[1]


def kinds_of(events):
    return [event[0] for event in events]


def shuffled(letters, turn):
    """The letters in an order that hangs on the turn alone."""
    out, number = [], turn + 1
    for at, letter in enumerate(letters):
        number = (number * 1103515245 + 12345) % 2147483648
        out.insert((number >> 8) % (at + 1), letter)
    return tuple(out)


def turned(row, ring):
    """The pair of a row in which the letters of one ring are each read as the next one, the others right."""
    read = dict(zip(ring, ring[1:] + ring[:1]))
    return tuple(row), tuple(read.get(x, x) for x in row)


class Refusing:
    """What a test case needs to see that something is refused."""

    def refused(self, error, asked, *things, **named):
        with self.assertRaises(error, msg=asked) as caught:
            asked(*things, **named)
        self.assertIs(type(caught.exception), error)

    def letters_refused(self, asked):
        """What is no list of letters is refused; asked of a row's letters in one word and a thing."""
        for thing in NO_LETTERS:
            self.refused(NoLetter, asked, "abc", thing)
        for thing in other_things():
            for letters in (thing, [thing], ["x", thing], [thing, "y"]):
                self.refused(NoLetter, asked, "xyz", letters)

    def events_refused(self, asked):
        """What is no list of events is refused; asked of things in the stead of events of the letters a to c."""
        for thing in NO_EVENTS_OF_ABC + other_things():
            self.refused(NoEvents, asked, [thing])
            self.refused(NoEvents, asked, [("place", 1), thing])
            self.refused(NoEvents, asked, [thing, ("place", 1)])
        for thing in [(("place", 1),), ("place", 1), "place", {}, {("place", 1): 1}, ()] + other_things():
            self.refused(NoEvents, asked, thing)


def many_events(row, many, names=True):
    """A long list of events of all kinds, the same at each run."""
    choices = events_of(row) if names else nameless_of(row)
    number = 7
    out = []
    for _ in range(many):
        number = (number * 1103515245 + 12345) % 2147483648
        out.append(choices[(number >> 8) % len(choices)])
    return out


class Awkward:
    """A thing that fails at whatever is asked of it but for its kind."""

    def fail(self, *rest):
        raise RuntimeError("asked of an awkward thing")

    __eq__ = __ne__ = __lt__ = __le__ = __gt__ = __ge__ = fail
    __hash__ = __len__ = __iter__ = __bool__ = __getitem__ = fail
    __contains__ = __int__ = __index__ = __getattr__ = fail
    __str__ = __repr__ = fail


class AwkwardText(str):
    __eq__ = __ne__ = __lt__ = __le__ = __gt__ = __ge__ = Awkward.fail
    __hash__ = __len__ = __iter__ = __bool__ = __getitem__ = Awkward.fail


class AwkwardTuple(tuple):
    __eq__ = __ne__ = __len__ = __iter__ = __bool__ = __getitem__ = Awkward.fail
    __hash__ = Awkward.fail


class AwkwardNumber(int):
    __eq__ = __ne__ = __lt__ = __le__ = __gt__ = __ge__ = Awkward.fail
    __hash__ = __bool__ = __index__ = Awkward.fail


class AwkwardList(list):
    __len__ = __iter__ = __bool__ = __getitem__ = Awkward.fail


def nested(kind, inmost=None, depth=40):
    thing = inmost
    for _ in range(depth):
        thing = kind([thing])
    return thing


def within_itself():
    thing = []
    thing.append(thing)
    return thing


def other_things():
    """Things of many kinds, none of them a row, a pair, an event or a list of such."""
    return [
        None, True, False, 0, 1, -1, 10 ** 30, 1.5, float("nan"), 2j,
        "", "a", "ab", "place", "abc/abc", b"", b"a", b"abc", ..., NotImplemented,
        (), ("",), (0,), (None,), ((),), ([],), ({},), ({"a"},), (b"a",), ((), ()),
        [[]], [None], ["a"], [("a",)], {}, {"a": "b"}, {("a",): 1}, set(), {"a"}, frozenset("a"),
        range(3), iter(()), (x for x in ()), len, int, object(), ValueError("a"), lambda: None,
        ("place",), ("place", None), ("place", "a"), ("place", [0]), ("place", 0.0),
        ("name", 0), ("name", None), ("name", ["a"]), ("name", b"a"), ("as", 0), ("as", "a", "b"),
        ([], 0), ({}, 0), (["place"], 0), (("place",), 0), (b"place", 0), (None, 0), (0, 0),
        nested(tuple), nested(list), nested(tuple, ()), nested(tuple, "a"), nested(list, ("a",)),
        (nested(tuple), nested(tuple)), ("place", nested(tuple)), ("name", nested(list)),
        (nested(list), 0), ("as", nested(tuple), nested(list)),
        within_itself(), (within_itself(), 0), ("place", within_itself()), ("name", within_itself()),
        Awkward(), (Awkward(),), (Awkward(), Awkward()), [Awkward()], (Awkward(), 0), ("place", Awkward()),
        ("name", Awkward()), ("as", Awkward(), 0), ("as", 0, Awkward()), (("a",), (Awkward(),)),
        AwkwardText("a"), (AwkwardText("a"),), ("name", AwkwardText("a")), (AwkwardText("place"), 0),
        AwkwardTuple("a"), (AwkwardTuple("a"), ("a",)), AwkwardTuple(("place", 0)),
        ("place", AwkwardNumber(0)), ("as", AwkwardNumber(0), AwkwardNumber(1)), AwkwardList([("place", 0)]),
    ]
