"""Points 5 to 9, 11 and 12: Counts, Truth, Costs, Sure, Voices, Wheel and Pair, each by itself."""

import unittest

from samples import LONGEST, SIXTY, Exact

from whencewise.errors import NoKind
from whencewise.heaps import Heaps
from whencewise.kinds import Costs, Counts, Pair, Sure, Truth, Voices, Wheel
from whencewise.least import Least

NO_WHOLE = [True, False, None, "", "0", "1", b"1", [], [1], (), (1,), {}, {1}, object(), 1.0, int]
NAME = "a" * 40


class OfEach(Exact):
    def sums(self, kind, rows):
        for a, b, asked in rows:
            with self.subTest(a=a, b=b):
                self.same(kind.plus(a, b), asked)
                self.same(kind.plus(b, a), asked)

    def products(self, kind, rows):
        for a, b, asked in rows:
            with self.subTest(a=a, b=b):
                self.same(kind.times(a, b), asked)
                self.same(kind.times(b, a), asked)

    def manies(self, kind, rows):
        for n, a, asked in rows:
            with self.subTest(n=n, a=a):
                self.same(kind.many(n, a), asked)

    def texts(self, kind, rows):
        for a, asked in rows:
            with self.subTest(a=a):
                self.same(kind.shown(a), asked)

    def notes(self, kind, things):
        for thing in things:
            with self.subTest(thing=repr(thing)[:80]):
                self.assertIs(kind.holds(thing), True)

    def no_notes(self, kind, things):
        for thing in things:
            with self.subTest(thing=repr(thing)[:80]):
                self.assertIs(kind.holds(thing), False)


class OfCounts(OfEach):
    kind = Counts()

    def test_nought_and_one(self):
        self.same(self.kind.nought(), 0)
        self.same(self.kind.one(), 1)

    def test_sums_and_products(self):
        self.sums(self.kind, [
            (0, 0, 0), (0, 1, 1), (1, 1, 2), (2, 3, 5), (7, 0, 7), (SIXTY, 1, SIXTY + 1), (LONGEST, LONGEST, 2 * 10 ** 60 - 2),
        ])
        self.products(self.kind, [
            (0, 0, 0), (0, 5, 0), (1, 5, 5), (2, 3, 6), (10, 10, 100), (LONGEST, LONGEST, 10 ** 120 - 2 * 10 ** 60 + 1),
            (SIXTY, 2, 2 * 10 ** 59 + 14),
        ])

    def test_lacks(self):
        for a, asked in [(0, 1), (1, 0), (2, 0), (SIXTY, 0)]:
            self.same(self.kind.lack(a), asked)

    def test_many(self):
        self.manies(self.kind, [
            (0, 5, 0), (1, 5, 5), (2, 5, 10), (100, 5, 500), (100, 0, 0), (SIXTY, 1, SIXTY), (SIXTY, 0, 0), (0, SIXTY, 0),
            (LONGEST, LONGEST, 10 ** 120 - 2 * 10 ** 60 + 1),
        ])

    def test_holds(self):
        self.notes(self.kind, [0, 1, 2, 100, SIXTY, LONGEST, 10 ** 3999])
        self.no_notes(self.kind, [-1, -2, -SIXTY] + NO_WHOLE)

    def test_shown(self):
        self.texts(self.kind, [(0, "0"), (1, "1"), (10, "10"), (203, "203"), (LONGEST, "9" * 60)])
        self.texts(self.kind, [(10 ** 4000 - 1, "9" * 4000)])


class OfTruth(OfEach):
    kind = Truth()

    def test_nought_and_one(self):
        self.same(self.kind.nought(), False)
        self.same(self.kind.one(), True)

    def test_sums_and_products(self):
        self.sums(self.kind, [(False, False, False), (False, True, True), (True, True, True)])
        self.products(self.kind, [(False, False, False), (False, True, False), (True, True, True)])

    def test_lacks(self):
        self.same(self.kind.lack(False), True)
        self.same(self.kind.lack(True), False)

    def test_many(self):
        for n in [0, 1, 2, 100, SIXTY]:
            self.same(self.kind.many(n, True), n > 0)
            self.same(self.kind.many(n, False), False)

    def test_holds(self):
        self.notes(self.kind, [True, False])
        self.no_notes(self.kind, [0, 1, 2, -1, None, "", "yes", "no", "True", [], [True], (), (True,), {}, {True}, object(), bool])

    def test_shown(self):
        self.texts(self.kind, [(True, "yes"), (False, "no")])


class OfCosts(OfEach):
    kind = Costs()

    def test_nought_and_one(self):
        self.assertIsNone(self.kind.nought())
        self.same(self.kind.one(), 0)

    def test_sums_and_products(self):
        self.sums(self.kind, [
            (None, None, None), (None, 0, 0), (None, 5, 5), (None, -5, -5), (0, 0, 0), (0, 3, 0), (0, -3, -3), (4, 9, 4),
            (-4, -9, -9), (SIXTY, LONGEST, SIXTY), (-SIXTY, -LONGEST, -LONGEST), (-LONGEST, LONGEST, -LONGEST),
        ])
        self.products(self.kind, [
            (None, None, None), (None, 0, None), (None, 5, None), (0, 5, 5), (0, 0, 0), (3, 4, 7), (3, -4, -1), (-3, -4, -7),
            (3, -3, 0), (LONGEST, LONGEST, 2 * LONGEST), (SIXTY, -LONGEST, SIXTY - LONGEST),
        ])

    def test_lacks(self):
        for a, asked in [(None, 0), (0, None), (1, None), (-1, None), (SIXTY, None)]:
            self.same(self.kind.lack(a), asked)

    def test_many(self):
        self.manies(self.kind, [(0, 5, None), (0, 0, None), (0, None, None)])
        for n in [1, 2, 100, SIXTY]:
            self.manies(self.kind, [(n, 5, 5), (n, 0, 0), (n, -3, -3), (n, None, None), (n, LONGEST, LONGEST)])

    def test_holds(self):
        self.notes(self.kind, [None, 0, 1, -1, 5, -77, SIXTY, -LONGEST])
        self.no_notes(self.kind, [thing for thing in NO_WHOLE if thing is not None] + ["never", (None,), [None]])

    def test_shown(self):
        self.texts(self.kind, [
            (None, "never"), (0, "0"), (7, "7"), (-7, "-7"), (-10, "-10"), (LONGEST, "9" * 60), (-LONGEST, "-" + "9" * 60),
        ])


class OfSure(OfEach):
    kind = Sure()

    def test_nought_and_one(self):
        self.same(self.kind.nought(), (0, 1))
        self.same(self.kind.one(), (1, 1))

    def test_sums(self):
        self.sums(self.kind, [
            ((0, 1), (0, 1), (0, 1)), ((0, 1), (1, 3), (1, 3)), ((1, 1), (1, 3), (1, 1)), ((1, 2), (1, 3), (1, 2)),
            ((2, 3), (3, 4), (3, 4)), ((2, 3), (5, 8), (2, 3)), ((1, 2), (1, 2), (1, 2)), ((3, 10), (2, 7), (3, 10)),
            ((LONGEST - 2, LONGEST - 1), (LONGEST - 1, LONGEST), (LONGEST - 1, LONGEST)),
            ((1, SIXTY), (1, LONGEST), (1, SIXTY)),
        ])

    def test_products(self):
        self.products(self.kind, [
            ((0, 1), (0, 1), (0, 1)), ((0, 1), (1, 3), (0, 1)), ((1, 1), (1, 3), (1, 3)), ((1, 2), (1, 3), (1, 6)),
            ((2, 3), (3, 4), (1, 2)), ((4, 9), (3, 8), (1, 6)), ((1, 2), (1, 2), (1, 4)), ((1, 1), (1, 1), (1, 1)),
            ((2, LONGEST), (1, 2), (1, LONGEST)), ((1, 10 ** 59), (1, 10 ** 59), (1, 10 ** 118)),
            ((LONGEST - 1, LONGEST), (1, LONGEST - 1), (1, LONGEST)),
        ])

    def test_lacks(self):
        for a, asked in [((0, 1), (1, 1)), ((1, 1), (0, 1)), ((1, 2), (0, 1)), ((1, LONGEST), (0, 1))]:
            self.same(self.kind.lack(a), asked)

    def test_many(self):
        for a in [(0, 1), (1, 1), (1, 2), (SIXTY, LONGEST)]:
            self.manies(self.kind, [(0, a, (0, 1)), (1, a, a), (2, a, a), (100, a, a), (SIXTY, a, a)])

    def test_holds(self):
        self.notes(self.kind, [(0, 1), (1, 1), (1, 2), (2, 3), (99, 100), (1, SIXTY), (10 ** 60 - 2, 10 ** 60 - 1)])
        self.no_notes(self.kind, [
            (0, 2), (2, 2), (2, 4), (6, 9), (0, SIXTY), (SIXTY, SIXTY), (3 * 10 ** 58, 10 ** 59), (5, 4), (2, 1), (-1, 2),
            (-1, 1), (1, 0), (0, 0), (0, -1), (1, -1), (-1, -2), (1, -2), (-1, -1), (True, 1), (1, True), (True, True),
            (False, 1), (True, 2), (None, 1), (1, None), (1,), (), (1, 2, 3), (0, 1, 1), (1, 1, 1), [1, 2], [0, 1],
            ("1", "2"), ("1", 2), (1, "2"), "1/2", "12", ((1, 2),), ((1, 2), (1, 2)), ([1], 2), None, 0, 1, True, False,
        ])

    def test_shown(self):
        self.texts(self.kind, [
            ((0, 1), "0/1"), ((1, 1), "1/1"), ((1, 2), "1/2"), ((11, 100), "11/100"), ((1, LONGEST), "1/" + "9" * 60),
        ])


class OfVoices(OfEach):
    kind = Voices()

    def test_nought_and_one(self):
        self.assertIsNone(self.kind.nought())
        self.same(self.kind.one(), ())

    def test_sums(self):
        self.sums(self.kind, [
            (None, None, None), (None, (), ()), (None, ("a",), ("a",)), ((), (), ()), ((), ("a",), ("a",)),
            (("a",), ("b",), ("a", "b")), (("b",), ("a",), ("a", "b")), (("a", "c"), ("b", "c", "d"), ("a", "b", "c", "d")),
            (("a", "b"), ("a", "b"), ("a", "b")), (("a10",), ("a2", "a9"), ("a10", "a2", "a9")), (("b",), ("ab",), ("ab", "b")),
        ])

    def test_products(self):
        self.products(self.kind, [
            (None, None, None), (None, (), None), (None, ("a",), None), ((), (), ()), ((), ("a",), ("a",)),
            (("a",), ("b",), ("a", "b")), (("a", "c"), ("b", "c", "d"), ("a", "b", "c", "d")), (("a",), ("a",), ("a",)),
            ((NAME,), ("a",), ("a", NAME)),
        ])

    def test_lacks(self):
        for a, asked in [(None, ()), ((), None), (("a",), None), (("a", "b"), None)]:
            self.same(self.kind.lack(a), asked)

    def test_many(self):
        for a in [None, (), ("a",), ("a", "b")]:
            self.manies(self.kind, [(0, a, None), (1, a, a), (2, a, a), (100, a, a), (SIXTY, a, a)])

    def test_holds(self):
        self.notes(self.kind, [None, (), ("a",), ("a", "b"), ("a", "a0", "aa", "b"), (NAME,), ("a10", "a9")])
        self.no_notes(self.kind, [
            ("b", "a"), ("a", "a"), ("a", "b", "b"), ("a", "c", "b"), ("a9", "a10"), ("",), ("A",), ("a", "B"), ("0a",),
            ("a b",), ("a_",), (NAME + "a",), ("a", ""), (1,), (True,), (None,), ("a", None), ("a", 1), (("a",),), (["a"],),
            ((),), [], ["a"], ["a", "b"], "a", "", "ab", "never", "nobody", 0, 1, True, False, {}, {"a"}, {"a": True}, (b"a",),
        ])

    def test_shown(self):
        self.texts(self.kind, [(None, "never"), ((), "nobody"), (("a",), "a"), (("a", "b"), "a+b"), (("ann", "bob", "cy3"), "ann+bob+cy3")])


class OfWheel(OfEach):
    def test_nought_and_one(self):
        for size in [2, 3, 7, SIXTY]:
            self.same(Wheel(size).nought(), 0)
            self.same(Wheel(size).one(), 1)

    def test_sums_and_products(self):
        self.sums(Wheel(2), [(0, 0, 0), (0, 1, 1), (1, 1, 0)])
        self.products(Wheel(2), [(0, 0, 0), (0, 1, 0), (1, 1, 1)])
        self.sums(Wheel(7), [(3, 3, 6), (3, 4, 0), (6, 6, 5), (0, 6, 6)])
        self.products(Wheel(7), [(3, 5, 1), (6, 6, 1), (2, 3, 6), (0, 6, 0), (1, 6, 6)])
        self.products(Wheel(6), [(2, 3, 0), (3, 3, 3), (4, 4, 4)])
        self.sums(Wheel(LONGEST), [(LONGEST - 1, 1, 0), (LONGEST - 1, LONGEST - 1, LONGEST - 2), (5, 6, 11)])
        self.products(Wheel(LONGEST), [(LONGEST - 1, LONGEST - 1, 1), (10 ** 59, 10, 1), (LONGEST - 1, 2, LONGEST - 2)])

    def test_all_rests_of_small_wheels(self):
        for size in range(2, 9):
            rests = range(size)
            self.sums(Wheel(size), [(a, b, (a + b) % size) for a in rests for b in rests])
            self.products(Wheel(size), [(a, b, a * b % size) for a in rests for b in rests])

    def test_lacks(self):
        for size in [2, 7, SIXTY]:
            self.same(Wheel(size).lack(0), 1)
            self.same(Wheel(size).lack(1), 0)
            self.same(Wheel(size).lack(size - 1), 0)
        self.same(Wheel(6).lack(3), 0)

    def test_many(self):
        self.manies(Wheel(7), [(0, 5, 0), (1, 5, 5), (2, 5, 3), (7, 5, 0), (100, 5, 3), (SIXTY, 3, SIXTY * 3 % 7), (100, 0, 0)])
        self.manies(Wheel(2), [(0, 1, 0), (1, 1, 1), (2, 1, 0), (100, 1, 0), (SIXTY, 1, 1)])
        self.manies(Wheel(SIXTY), [(SIXTY, 5, 0), (SIXTY + 2, 5, 10), (LONGEST, SIXTY - 1, (LONGEST * (SIXTY - 1)) % SIXTY)])

    def test_holds(self):
        self.notes(Wheel(2), [0, 1])
        self.no_notes(Wheel(2), [2, 3, -1, SIXTY] + NO_WHOLE)
        self.notes(Wheel(7), range(7))
        self.no_notes(Wheel(7), [7, 8, 14, -1, -7] + NO_WHOLE)
        self.notes(Wheel(SIXTY), [0, 1, SIXTY - 1])
        self.no_notes(Wheel(SIXTY), [SIXTY, SIXTY + 1, -1, -SIXTY])

    def test_shown(self):
        self.texts(Wheel(12), [(0, "0"), (1, "1"), (11, "11")])
        self.texts(Wheel(10 ** 59), [(10 ** 59 - 1, "9" * 59)])

    def test_refused(self):
        for size in [1, 0, -1, -2, -SIXTY] + NO_WHOLE + [[2], (2,), "2", {2: 2}, {2}, 2.0]:
            with self.subTest(size=repr(size)):
                self.refuses(NoKind, Wheel, size)
        self.refuses(NoKind, Wheel, -10 ** 5000)

    def test_not_refused(self):
        for size in [2, 3, SIXTY, LONGEST]:
            self.same(Wheel(size).plus(size - 1, 1), 0)


class OfPair(OfEach):
    kind = Pair(Counts(), Costs())

    def test_nought_and_one(self):
        self.same(self.kind.nought(), (0, None))
        self.same(self.kind.one(), (1, 0))
        self.same(Pair(Truth(), Sure()).nought(), (False, (0, 1)))
        self.same(Pair(Voices(), Heaps(Truth())).one(), ((), ((0, True),)))

    def test_sums_and_products(self):
        self.sums(self.kind, [
            ((2, 3), (4, 5), (6, 3)), ((0, None), (4, 5), (4, 5)), ((0, 7), (2, None), (2, 7)), ((1, 0), (1, 0), (2, 0)),
            ((SIXTY, -SIXTY), (1, SIXTY), (SIXTY + 1, -SIXTY)),
        ])
        self.products(self.kind, [
            ((2, 3), (4, 5), (8, 8)), ((0, None), (4, 5), (0, None)), ((0, 7), (2, None), (0, None)), ((1, 0), (3, -2), (3, -2)),
            ((0, 2), (5, 1), (0, 3)), ((SIXTY, SIXTY), (2, 1), (2 * SIXTY, SIXTY + 1)),
        ])

    def test_the_first_is_of_the_first(self):
        self.same(Pair(Truth(), Counts()).plus((True, 2), (True, 3)), (True, 5))
        self.same(Pair(Counts(), Truth()).plus((2, True), (3, True)), (5, True))

    def test_lacks_go_place_by_place(self):
        for a, asked in [
            ((0, None), (1, 0)), ((1, 0), (0, None)), ((0, 5), (1, None)), ((3, None), (0, 0)), ((2, 2), (0, None)),
        ]:
            self.same(self.kind.lack(a), asked)
        within = Pair(Pair(Truth(), Counts()), Wheel(2))
        self.same(within.lack(((False, 4), 0)), ((True, 0), 1))
        heaps = Pair(Heaps(Counts()), Truth())
        self.same(heaps.lack(((), True)), (((0, 1),), False))

    def test_many_goes_place_by_place(self):
        self.manies(self.kind, [
            (0, (2, 3), (0, None)), (1, (2, 3), (2, 3)), (2, (2, 3), (4, 3)), (100, (2, -3), (200, -3)),
            (SIXTY, (2, None), (2 * SIXTY, None)),
        ])
        self.manies(Pair(Wheel(2), Wheel(3)), [(6, (1, 1), (0, 0)), (3, (1, 1), (1, 0)), (LONGEST, (1, 2), (1, 0))])

    def test_holds(self):
        self.notes(self.kind, [(0, None), (1, 0), (0, 5), (3, None), (SIXTY, -SIXTY)])
        self.no_notes(self.kind, [
            (), (1,), (1, 0, 0), (0, None, None), [1, 0], [0, None], (-1, 0), (None, 0), (None, None), (True, 0), (1, True),
            (1, False), (1, "0"), ("1", 0), ((1, 0),), ((1, 0), (1, 0)), (1, (0,)), None, 0, 1, "10", {1: 0}, {},
        ])
        within = Pair(Pair(Truth(), Sure()), Voices())
        self.notes(within, [((False, (0, 1)), None), ((True, (1, 2)), ("a", "b"))])
        self.no_notes(within, [
            ([True, (1, 2)], ()), ((True, [1, 2]), ()), ((True, (2, 4)), ()), ((True, (1, 2)), ("b", "a")), ((1, (1, 2)), ()),
            ((True, (1, 2)), ["a"]), (True, (1, 2), ()), ((True,), ()), ((True, (1, 2), ()), ()),
        ])

    def test_shown(self):
        self.texts(self.kind, [((0, None), "[0, never]"), ((2, -3), "[2, -3]")])
        self.texts(Pair(Pair(Truth(), Sure()), Voices()), [
            (((True, (1, 2)), ()), "[[yes, 1/2], nobody]"), (((False, (0, 1)), ("a", "b")), "[[no, 0/1], a+b]"),
        ])
        self.texts(Pair(Least(), Heaps(Counts())), [(((("a", "b"),), ((-2, 3),)), "[a*b, {-2: 3}]"), (((), ()), "[0, {}]")])

    def test_ten_within_one_another(self):
        kind, note, text = Counts(), 3, "3"
        for at in range(9):
            kind = Pair(kind, Truth()) if at % 2 else Pair(Truth(), kind)
            note = (note, True) if at % 2 else (True, note)
            text = f"[{text}, yes]" if at % 2 else f"[yes, {text}]"
        self.assertIs(kind.holds(note), True)
        self.assertIs(kind.holds((note, True)), False)
        self.same(kind.shown(note), text)
        self.same(kind.times(note, kind.one()), note)
        self.same(kind.plus(note, kind.nought()), note)
        self.same(kind.lack(note), kind.nought())
        self.same(kind.lack(kind.nought()), kind.one())
        self.same(kind.many(2, note), kind.plus(note, note))


if __name__ == "__main__":
    unittest.main()
