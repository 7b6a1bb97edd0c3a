"""What several files of tests ask: notes of many kinds, things that are no notes, and values compared exactly."""

import unittest

from whencewise.heaps import Heaps
from whencewise.kinds import Costs, Counts, Pair, Sure, Truth, Voices, Wheel
from whencewise.least import Least
from whencewise.reasons import Reasons

SIXTY = 10 ** 59 + 7
LONGEST = 10 ** 60 - 1
NO_NOTES = [
    "", "a", "0", "1", "no", "yes", "never", "{}", b"", b"a", [], [0], [1], [[]], [()], ["a"], [0, 1], {}, {0: 1}, {"a": True},
    {0}, {"a"}, set(), frozenset(), frozenset(["a"]), 0.0, 1.0, 0.5, 1j, object(), int, len, range(3), Counts(), Counts,
    ([],), ([], []), ((0, [1]),), (([0, 1],),), ([("a",)],), ((), []), (None,), ("",), ("A",), ((1.0, 1),),
    ("a", 1), (1, "a"), (("a",), 1), (("a", 1),), (((("a",),),),), (object(),), (0.0, 1), (0, 1.0), ({}, {}), ({1: 2},),
]


def form(value):
    """A value with the class of all that is in it, so that True isn't 1 and a list no tuple."""
    if isinstance(value, (list, tuple)):
        return (type(value).__name__, [form(inner) for inner in value])
    if isinstance(value, dict):
        return ("dict", [(form(key), form(value[key])) for key in value])
    return (type(value).__name__, value)


def deep(thing, depth):
    for _ in range(depth):
        thing = (thing,)
    return thing


class Exact(unittest.TestCase):
    def same(self, told, asked):
        self.assertEqual(form(told), form(asked))

    def refuses(self, error, deed, *handed):
        """Just this class, none under it."""
        with self.assertRaises(error) as caught:
            deed(*handed)
        self.assertIs(type(caught.exception), error)


def plain_notes():
    """Of each kind that has no other one within: a word, the kind, and some of its notes."""
    return [
        ("counts", Counts(), [0, 1, 2, 3, 10, SIXTY, LONGEST]),
        ("truth", Truth(), [False, True]),
        ("costs", Costs(), [None, 0, 1, -1, 5, -7, SIXTY, -LONGEST]),
        ("sure", Sure(), [(0, 1), (1, 1), (1, 2), (1, 3), (2, 3), (3, 7), (SIXTY, LONGEST), (1, LONGEST)]),
        ("voices", Voices(), [None, (), ("a",), ("b",), ("a", "b"), ("a", "c"), ("b2", "c"), ("a", "ab", "b", "z9")]),
        ("wheel of 2", Wheel(2), [0, 1]),
        ("wheel of 6", Wheel(6), [0, 1, 2, 3, 4, 5]),
        ("great wheel", Wheel(SIXTY), [0, 1, 2, SIXTY - 1, SIXTY // 2]),
        ("least", Least(), [
            (), ((),), (("a",),), (("b",),), (("a",), ("b",)), (("a", "b"),), (("a", "b"), ("c",)),
            (("a", "b"), ("a", "c"), ("b", "c")), (("a", "d"), ("b",)),
        ]),
    ]


def reasons():
    """Some reasons, with bars and bars within bars among them."""
    a, b = ((("a",), (), 1),), ((("b",), (), 1),)
    bar = (((), (a,), 1),)
    return [
        (), (((), (), 1),), (((), (), SIXTY),), a, b, ((("a", "a"), (), 2), (("b",), (), 1)), bar,
        (((), (a, b), 1), (("a",), (), 3)), (((), (bar,), 1), ((), (a,), 2)), ((("c",), (bar, a), 1),),
    ]


def made_notes():
    """The same of kinds that are made of other ones, pairs of heaps and heaps of pairs among them."""
    two = Heaps(Wheel(4))
    heaps = [(), ((0, 1),), ((0, 2),), ((-2, 3), (15, 1)), ((-1, 1), (0, 1), (1, 1)), ((1, 2), (SIXTY, 1))]
    return [
        ("heaps of counts", Heaps(Counts()), heaps + [((0, 1), (1, SIXTY))]),
        ("heaps of a wheel", two, heaps),
        ("heaps of truth", Heaps(Truth()), [(), ((0, True),), ((1, True),), ((-1, True), (1, True)), ((LONGEST, True),)]),
        ("heaps of costs", Heaps(Costs()), [(), ((0, 0),), ((0, 3), (2, -1)), ((-2, 0), (5, SIXTY))]),
        ("heaps of least", Heaps(Least()), [
            (), ((0, ((),)),), ((0, (("a",),)),), ((1, (("a",), ("b",))), (2, ((),))), ((-1, (("a", "b"),)),),
        ]),
        ("heaps of heaps", Heaps(two), [
            (), ((0, ((0, 1),)),), ((1, ((0, 2),)),), ((0, ((3, 1),)), (1, ((-3, 2), (0, 1)))), ((-1, ((0, 3),)),),
        ]),
        ("pairs", Pair(Counts(), Truth()), [(0, False), (1, True), (0, True), (2, False), (SIXTY, True)]),
        ("pairs of rests", Pair(Wheel(2), Wheel(3)), [(one, other) for one in range(2) for other in range(3)]),
        ("pairs of single ones", Pair(Costs(), Voices()), [
            (None, None), (0, ()), (None, ("a",)), (3, None), (-2, ("a", "b")), (5, ("c",)),
        ]),
        ("pairs of pairs", Pair(Pair(Truth(), Costs()), Sure()), [
            ((False, None), (0, 1)), ((True, 0), (1, 1)), ((True, None), (1, 2)), ((False, 4), (2, 3)),
        ]),
        ("pairs of heaps", Pair(Heaps(Counts()), Heaps(Truth())), [
            ((), ()), (((0, 1),), ((0, True),)), (((1, 2),), ()), (((-1, 1), (2, 5)), ((1, True), (3, True))),
        ]),
        ("reasons", Reasons(), reasons()),
        ("heaps of reasons", Heaps(Reasons()), [()] + [((-1, note), (2, reasons()[3])) for note in reasons()[1:6]]),
        ("pairs of reasons", Pair(Reasons(), Wheel(2)), [(note, at % 2) for at, note in enumerate(reasons()[2:8])]),
        ("heaps of pairs", Heaps(Pair(Wheel(6), Costs())), [
            (), ((0, (1, 0)),), ((0, (0, 2)),), ((1, (3, None)),), ((-1, (2, 1)), (4, (5, -3))),
        ]),
    ]


def all_notes():
    return plain_notes() + made_notes()
