"""What several files of tests ask: notes of many kinds, askings, hoards, answers by hand, and values compared exactly."""

import itertools
import random
import unittest

from whencewise.askings import columns_of
from whencewise.errors import NoColumn, NoTable, Twice, Unlike
from whencewise.heaps import Heaps
from whencewise.kinds import Costs, Counts, Pair, Sure, Truth, Voices, Wheel
from whencewise.least import Least
from whencewise.reasons import Reasons
from whencewise.trials import passes

SIXTY = 10 ** 59 + 7
LONGEST = 10 ** 60 - 1
NO_NOTES = [
    "", "a", "0", "1", "no", "yes", "never", "{}", b"", b"a", [], [0], [1], [[]], [()], ["a"], [0, 1], {}, {0: 1}, {"a": True},
    {0}, {"a"}, set(), frozenset(), frozenset(["a"]), 0.0, 1.0, 0.5, 1j, object(), int, len, range(3), Counts(), Counts,
    ([],), ([], []), ((0, [1]),), (([0, 1],),), ([("a",)],), ((), []), (None,), ("",), ("A",), ((1.0, 1),),
    ("a", 1), (1, "a"), (("a",), 1), (("a", 1),), (((("a",),),),), (object(),), (0.0, 1), (0, 1.0), ({}, {}), ({1: 2},),
]


def form(value):
    """A value with the class of all that is in it, so that True isn't 1 and a list no tuple."""
    if isinstance(value, (list, tuple)):
        return (type(value).__name__, [form(inner) for inner in value])
    if isinstance(value, dict):
        return ("dict", [(form(key), form(value[key])) for key in value])
    return (type(value).__name__, value)


def deep(thing, depth):
    for _ in range(depth):
        thing = (thing,)
    return thing


class Exact(unittest.TestCase):
    def same(self, told, asked):
        self.assertEqual(form(told), form(asked))

    def refuses(self, error, deed, *handed):
        """Just this class, none under it."""
        with self.assertRaises(error) as caught:
            deed(*handed)
        self.assertIs(type(caught.exception), error)


def plain_notes():
    """Of each kind that has no other one within: a word, the kind, and some of its notes."""
    return [
        ("counts", Counts(), [0, 1, 2, 3, 10, SIXTY, LONGEST]),
        ("truth", Truth(), [False, True]),
        ("costs", Costs(), [None, 0, 1, -1, 5, -7, SIXTY, -LONGEST]),
        ("sure", Sure(), [(0, 1), (1, 1), (1, 2), (1, 3), (2, 3), (3, 7), (SIXTY, LONGEST), (1, LONGEST)]),
        ("voices", Voices(), [None, (), ("a",), ("b",), ("a", "b"), ("a", "c"), ("b2", "c"), ("a", "ab", "b", "z9")]),
        ("wheel of 2", Wheel(2), [0, 1]),
        ("wheel of 6", Wheel(6), [0, 1, 2, 3, 4, 5]),
        ("great wheel", Wheel(SIXTY), [0, 1, 2, SIXTY - 1, SIXTY // 2]),
        ("least", Least(), [
            (), ((),), (("a",),), (("b",),), (("a",), ("b",)), (("a", "b"),), (("a", "b"), ("c",)),
            (("a", "b"), ("a", "c"), ("b", "c")), (("a", "d"), ("b",)),
        ]),
    ]


def reasons():
    """Some reasons, with bars and bars within bars among them."""
    a, b = ((("a",), (), 1),), ((("b",), (), 1),)
    bar = (((), (a,), 1),)
    return [
        (), (((), (), 1),), (((), (), SIXTY),), a, b, ((("a", "a"), (), 2), (("b",), (), 1)), bar,
        (((), (a, b), 1), (("a",), (), 3)), (((), (bar,), 1), ((), (a,), 2)), ((("c",), (bar, a), 1),),
    ]


def made_notes():
    """The same of kinds that are made of other ones, pairs of heaps and heaps of pairs among them."""
    two = Heaps(Wheel(4))
    heaps = [(), ((0, 1),), ((0, 2),), ((-2, 3), (15, 1)), ((-1, 1), (0, 1), (1, 1)), ((1, 2), (SIXTY, 1))]
    return [
        ("heaps of counts", Heaps(Counts()), heaps + [((0, 1), (1, SIXTY))]),
        ("heaps of a wheel", two, heaps),
        ("heaps of truth", Heaps(Truth()), [(), ((0, True),), ((1, True),), ((-1, True), (1, True)), ((LONGEST, True),)]),
        ("heaps of costs", Heaps(Costs()), [(), ((0, 0),), ((0, 3), (2, -1)), ((-2, 0), (5, SIXTY))]),
        ("heaps of least", Heaps(Least()), [
            (), ((0, ((),)),), ((0, (("a",),)),), ((1, (("a",), ("b",))), (2, ((),))), ((-1, (("a", "b"),)),),
        ]),
        ("heaps of heaps", Heaps(two), [
            (), ((0, ((0, 1),)),), ((1, ((0, 2),)),), ((0, ((3, 1),)), (1, ((-3, 2), (0, 1)))), ((-1, ((0, 3),)),),
        ]),
        ("pairs", Pair(Counts(), Truth()), [(0, False), (1, True), (0, True), (2, False), (SIXTY, True)]),
        ("pairs of rests", Pair(Wheel(2), Wheel(3)), [(one, other) for one in range(2) for other in range(3)]),
        ("pairs of single ones", Pair(Costs(), Voices()), [
            (None, None), (0, ()), (None, ("a",)), (3, None), (-2, ("a", "b")), (5, ("c",)),
        ]),
        ("pairs of pairs", Pair(Pair(Truth(), Costs()), Sure()), [
            ((False, None), (0, 1)), ((True, 0), (1, 1)), ((True, None), (1, 2)), ((False, 4), (2, 3)),
        ]),
        ("pairs of heaps", Pair(Heaps(Counts()), Heaps(Truth())), [
            ((), ()), (((0, 1),), ((0, True),)), (((1, 2),), ()), (((-1, 1), (2, 5)), ((1, True), (3, True))),
        ]),
        ("reasons", Reasons(), reasons()),
        ("heaps of reasons", Heaps(Reasons()), [()] + [((-1, note), (2, reasons()[3])) for note in reasons()[1:6]]),
        ("pairs of reasons", Pair(Reasons(), Wheel(2)), [(note, at % 2) for at, note in enumerate(reasons()[2:8])]),
        ("heaps of pairs", Heaps(Pair(Wheel(6), Costs())), [
            (), ((0, (1, 0)),), ((0, (0, 2)),), ((1, (3, None)),), ((-1, (2, 1)), (4, (5, -3))),
        ]),
    ]


def all_notes():
    return plain_notes() + made_notes()


SHAPES = {"r": ("a", "b"), "s": ("b", "c"), "t": ("c", "d"), "u": ("b", "a"), "n": (), "w": ("a", "b", "c")}
R, S, T, U, N, W = [("table", name) for name in "rstunw"]
NONE = ("table", "none")
TRUE = ("same", ("just", 1), ("just", 1))


def of(column):
    return ("of", column)


# What point 25 refuses over SHAPES, each alone and which of two goes first.
REFUSALS = [
    (NoTable, NONE), (NoTable, ("pick", NONE, TRUE)), (NoTable, ("join", R, NONE)), (NoTable, ("leave", NONE, R)),
    (NoColumn, ("pick", R, ("same", of("a"), of("z")))), (NoColumn, ("pick", R, ("not", ("both", TRUE, ("under", of("z"), ("just", 1)))))),
    (NoColumn, ("pick", N, ("same", of("a"), of("a")))),
    (NoColumn, ("keep", R, ("z",))), (NoColumn, ("keep", R, ("a", "z", "a"))), (Twice, ("keep", R, ("a", "a", "z"))), (Twice, ("keep", R, ("b", "b"))),
    (Unlike, ("call", R, ("x",))), (Unlike, ("call", R, ("x", "x", "x"))), (Twice, ("call", R, ("x", "x"))), (Unlike, ("call", N, ("x",))),
    (Unlike, ("pour", R, S)), (Unlike, ("pour", R, U)), (Unlike, ("pour", W, R)),
    (NoColumn, ("total", R, "z", ("a", "a"))), (NoColumn, ("total", R, "a", ("z",))), (Twice, ("total", R, "a", ("b", "b"))),
    (NoColumn, ("total", R, "a", ("b", "z", "b"))), (Twice, ("total", R, "a", ("b", "b", "z"))),
    (Unlike, ("leave", R, S)), (Unlike, ("leave", N, R)),
    (NoTable, ("keep", NONE, ("z", "z"))), (NoColumn, ("pour", ("keep", R, ("z",)), NONE)), (Unlike, ("join", ("pour", R, S), ("keep", R, ("z",)))),
    (Twice, ("leave", R, ("keep", R, ("a", "a")))), (NoColumn, ("pour", S, ("keep", R, ("z",)))), (NoTable, ("leave", NONE, ("call", R, ()))),
    (Unlike, ("pick", ("call", R, ("x",)), ("same", of("z"), of("z")))), (NoColumn, ("total", ("pick", R, ("same", of("y"), of("y"))), "z", ())),
]


def by_hand(kind, asking, store, values):
    """The answer to an asking, told row by row of all rows that these values make; as a dict without noughts."""
    shapes = {name: some[0] for name, some in store.items()}
    told = {}

    def note(asking, row):
        if (asking, row) not in told:
            told[asking, row] = reckoned(asking, row)
        return told[asking, row]

    def reckoned(asking, row):
        word = asking[0]
        if word == "table":
            return dict(store[asking[1]][1]).get(row, kind.nought())
        columns = columns_of(asking[1], shapes)
        if word == "pick":
            return note(asking[1], row) if passes(asking[2], columns, row) else kind.nought()
        if word == "call":
            return note(asking[1], row)
        if word in ("keep", "total"):
            return summed(asking, columns, row)
        row_of = dict(zip(columns_of(asking, shapes), row))
        other = note(asking[2], tuple(row_of[column] for column in columns_of(asking[2], shapes)))
        one = note(asking[1], row[:len(columns)])
        return kind.plus(one, other) if word == "pour" else kind.times(one, kind.lack(other) if word == "leave" else other)

    def summed(asking, columns, row):
        found = kind.nought()
        for some in itertools.product(values, repeat=len(columns)):
            row_of = dict(zip(columns, some))
            if tuple(row_of[column] for column in asking[-1]) == row:
                says = row_of[asking[2]] if asking[0] == "total" else 1
                says = max(says, 0) if isinstance(says, int) else 0
                found = kind.plus(found, kind.many(says, note(asking[1], some)))
        return found

    rows = itertools.product(values, repeat=len(columns_of(asking, shapes)))
    notes = {row: note(asking, row) for row in rows}
    return {row: note for row, note in notes.items() if note != kind.nought()}


class Chance:
    """Askings, hoards and tables by a seed, so the same in each run."""

    def __init__(self, seed, values=(-1, 1, 2, "x"), names="efgh"):
        self.random = random.Random(seed)
        self.values = values
        self.names = list(names)
        self.shapes = {"r": ("a", "b"), "s": ("b", "c"), "u": ("b", "a"), "v": ("c",), "n": ()}

    def row(self, length):
        return tuple(self.random.choice(self.values) for _ in range(length))

    def hoard(self, many=8):
        hoard = {}
        for name, columns in self.shapes.items():
            length = self.random.randrange(1 + many if columns else 3)
            facts = [(self.row(len(columns)), self.random.choice(self.names)) for _ in range(length)]
            hoard[name] = (columns, tuple(facts))
        return hoard

    def part(self, columns):
        if columns and self.random.random() < 0.6:
            return of(self.random.choice(columns))
        return ("just", self.random.choice(self.values))

    def test(self, columns, depth):
        if depth == 0 or self.random.random() < 0.4:
            return (self.random.choice(["same", "under"]), self.part(columns), self.part(columns))
        word = self.random.choice(["not", "both", "either"])
        if word == "not":
            return (word, self.test(columns, depth - 1))
        return (word, self.test(columns, depth - 1), self.test(columns, depth - 1))

    def some(self, columns):
        """Some of the columns in some order, seldom none."""
        many = self.random.choice([0] + 4 * list(range(1, len(columns) + 1)))
        return tuple(self.random.sample(columns, many))

    def asking(self, depth, plain=False):
        """An asking that isn't refused."""
        if depth == 0 or self.random.random() < 0.1:
            return ("table", self.random.choice(list(self.shapes)))
        word = self.random.choice(["pick", "keep", "call", "join", "pour", "total"] + ([] if plain else ["leave", "leave"]))
        one = self.asking(depth - 1, plain)
        columns = columns_of(one, self.shapes)
        if word == "pick":
            return (word, one, self.test(columns, 2))
        if word == "keep" or (word == "total" and columns == ()):
            return ("keep", one, self.some(columns))
        if word == "call":
            return (word, one, tuple(self.random.sample("abcde", len(columns))))
        if word == "total":
            return (word, one, self.random.choice(columns), self.some(columns))
        return (word, one, self.fitting(word, self.asking(depth - 1, plain), columns))

    def fitting(self, word, other, columns):
        """The other asking, brought to columns that go with these; a call fits it in where it has as many."""
        beside = columns_of(other, self.shapes)
        if word == "join":
            return other if len(set(columns + beside)) < 5 else ("keep", other, beside[:1])
        if word == "pour":
            if set(beside) == set(columns):
                return ("keep", other, columns)
            return ("call", other, columns) if len(beside) == len(columns) else self.grown(other, columns)
        return ("keep", other, tuple(column for column in beside[::-1] if column in columns))

    def grown(self, other, columns):
        """An asking with just these columns, out of tables that have them."""
        for column in columns:
            other = ("join", other, ("call", ("table", "v"), (column,)))
        return ("keep", other, columns)
