"""Point 13, and the last two sentences of point 27: Heaps, heaps lifted, and the sum of a heap."""

import copy
import itertools
import unittest

from samples import LONGEST, SIXTY, Exact

from whencewise.heaps import Heaps, lifted, sum_of
from whencewise.kinds import Costs, Counts, Pair, Sure, Truth, Voices, Wheel
from whencewise.least import Least

COUNTED = [
    (), ((0, 1),), ((0, 3),), ((5, 1),), ((-2, 3), (15, 1)), ((-1, 2), (0, 1), (1, 2)), ((3, 7), (SIXTY, 1)),
    ((-LONGEST, 4), (LONGEST, 6)), ((1, SIXTY), (2, 9)),
]


class Notes(Exact):
    kind = Heaps(Counts())

    def test_nought_and_one(self):
        self.same(self.kind.nought(), ())
        self.same(self.kind.one(), ((0, 1),))
        self.same(Heaps(Truth()).one(), ((0, True),))
        self.same(Heaps(Costs()).one(), ((0, 0),))
        self.same(Heaps(Voices()).one(), ((0, ()),))
        self.same(Heaps(Pair(Sure(), Least())).one(), ((0, ((1, 1), ((),))),))
        self.same(Heaps(Heaps(Truth())).one(), ((0, ((0, True),)),))

    def test_sums(self):
        for a, b, asked in [
            ((), (), ()), ((), ((5, 2),), ((5, 2),)), (((5, 2),), ((5, 3),), ((5, 5),)), (((5, 2),), ((4, 3),), ((4, 3), (5, 2))),
            (((-2, 1), (3, 1)), ((-5, 1), (3, 4), (9, 1)), ((-5, 1), (-2, 1), (3, 5), (9, 1))), (((0, 1),), ((0, 1),), ((0, 2),)),
            (((10, 1),), ((9, 1),), ((9, 1), (10, 1))), (((SIXTY, 1),), ((SIXTY, SIXTY), (LONGEST, 1)), ((SIXTY, SIXTY + 1), (LONGEST, 1))),
        ]:
            with self.subTest(a=a, b=b):
                self.same(self.kind.plus(a, b), asked)
                self.same(self.kind.plus(b, a), asked)

    def test_products(self):
        for a, b, asked in [
            ((), (), ()), ((), ((5, 2),), ()), (((0, 1),), ((5, 2),), ((5, 2),)), (((5, 2),), ((4, 3),), ((9, 6),)),
            (((0, 1), (1, 1)), ((0, 1), (1, 1)), ((0, 1), (1, 2), (2, 1))), (((-1, 1), (1, 1)), ((-1, 1), (1, 1)), ((-2, 1), (0, 2), (2, 1))),
            (((-2, 3), (15, 1)), ((2, 5),), ((0, 15), (17, 5))), (((LONGEST, 2),), ((LONGEST, SIXTY),), ((2 * LONGEST, 2 * SIXTY),)),
            (((LONGEST, 2),), ((-LONGEST, 2),), ((0, 4),)),
        ]:
            with self.subTest(a=a, b=b):
                self.same(self.kind.times(a, b), asked)
                self.same(self.kind.times(b, a), asked)

    def test_what_comes_to_nought_is_not_there(self):
        wheel = Heaps(Wheel(4))
        self.same(wheel.plus(((1, 1), (2, 2)), ((1, 3), (3, 1))), ((2, 2), (3, 1)))
        self.same(wheel.plus(((1, 2),), ((1, 2),)), ())
        self.same(wheel.times(((1, 2),), ((1, 2),)), ())
        self.same(wheel.times(((0, 1), (1, 1)), ((0, 1), (1, 3))), ((0, 1), (2, 3)))
        self.same(wheel.many(2, ((1, 2), (2, 1))), ((2, 2),))
        self.same(wheel.many(4, ((1, 2), (2, 1))), ())
        pairs = Heaps(Pair(Wheel(2), Wheel(3)))
        self.same(pairs.times(((1, (1, 0)),), ((1, (0, 1)),)), ())
        self.same(pairs.many(3, ((0, (1, 1)), (1, (0, 2)))), ((0, (1, 0)),))
        heaps = Heaps(Heaps(Wheel(2)))
        self.same(heaps.plus(((5, ((0, 1),)),), ((5, ((0, 1),)), (6, ((1, 1),)))), ((6, ((1, 1),)),))

    def test_other_kinds_within(self):
        self.same(Heaps(Costs()).plus(((1, 5),), ((1, 3), (2, 0))), ((1, 3), (2, 0)))
        self.same(Heaps(Costs()).times(((1, 5), (2, 1)), ((1, 3), (0, 9))), ((1, 14), (2, 8), (3, 4)))
        self.same(Heaps(Truth()).times(((1, True), (2, True)), ((1, True), (0, True))), ((1, True), (2, True), (3, True)))
        self.same(Heaps(Sure()).times(((1, (1, 2)),), ((1, (2, 3)), (2, (1, 1)))), ((2, (1, 3)), (3, (1, 2))))
        self.same(Heaps(Voices()).plus(((1, ("a",)),), ((1, ("b",)),)), ((1, ("a", "b")),))
        self.same(Heaps(Heaps(Counts())).times(((1, ((2, 3),)),), ((4, ((5, 6),)),)), ((5, ((7, 18),)),))

    def test_lacks(self):
        for a, asked in [((), ((0, 1),)), (((0, 1),), ()), (((5, 2),), ()), (((-1, 1), (1, 1)), ())]:
            self.same(self.kind.lack(a), asked)
        # One or nought as a whole, not place by place, whatever is within.
        self.same(Heaps(Pair(Truth(), Truth())).lack(((0, (True, False)),)), ())
        self.same(Heaps(Pair(Truth(), Truth())).lack(()), ((0, (True, True)),))

    def test_many(self):
        for n in [0, 1, 2, 100, SIXTY]:
            self.same(self.kind.many(n, ((-2, 3), (15, 1))), ((-2, 3 * n), (15, n)) if n else ())
            self.same(self.kind.many(n, ()), ())
            self.same(Heaps(Truth()).many(n, ((4, True),)), ((4, True),) if n else ())

    def test_holds(self):
        for thing in [(), ((0, 1),), ((0, 5),), ((-2, 3), (15, 1)), ((-LONGEST, 1), (0, SIXTY), (LONGEST, 1))]:
            self.assertIs(self.kind.holds(thing), True)
        self.assertIs(Heaps(Costs()).holds(((-1, 0), (0, -3))), True)
        self.assertIs(Heaps(Voices()).holds(((0, ()), (1, ("a",)))), True)
        self.assertIs(Heaps(Heaps(Truth())).holds(((0, ((1, True),)),)), True)
        self.assertIs(Heaps(Pair(Costs(), Truth())).holds(((2, (None, True)), (3, (5, False)))), True)

    def test_does_not_hold(self):
        for kind, thing in [
            (Counts(), ((1, 1), (0, 1))), (Counts(), ((1, 1), (1, 2))), (Counts(), ((1, 1), (1, 1))), (Counts(), ((0, 0),)),
            (Counts(), ((0, 1), (1, 0))), (Counts(), ((0, -1),)), (Counts(), ((0, True),)), (Counts(), ((True, 1),)),
            (Counts(), ((False, 1),)), (Counts(), ((None, 1),)), (Counts(), (("a", 1),)), (Counts(), (("0", 1),)),
            (Counts(), ((0, None),)), (Counts(), ((0, "1"),)), (Counts(), ((0,),)), (Counts(), ((0, 1, 1),)), (Counts(), ((),)),
            (Counts(), ([0, 1],)), (Counts(), [(0, 1)]), (Counts(), [[0, 1]]), (Counts(), []), (Counts(), (0, 1)),
            (Counts(), (0,)), (Counts(), ((0, 1), 2)), (Counts(), ((0, 1), None)), (Counts(), ((0, (1,)),)), (Counts(), None),
            (Counts(), 0), (Counts(), 1), (Counts(), {}), (Counts(), {0: 1}), (Counts(), "{}"), (Counts(), (((0, 1),),)),
            (Counts(), ((0, 1), (2, 1), (1, 1))), (Counts(), ((-1, 1), (-2, 1))), (Truth(), ((0, False),)), (Truth(), ((0, 1),)),
            (Costs(), ((0, None),)), (Costs(), ((0, True),)), (Sure(), ((0, (0, 1)),)), (Sure(), ((0, (2, 4)),)),
            (Sure(), ((0, [1, 2]),)), (Voices(), ((0, None),)), (Voices(), ((0, ("b", "a")),)), (Least(), ((0, ()),)),
            (Heaps(Counts()), ((0, ()),)), (Heaps(Counts()), ((0, ((0, 0),)),)), (Heaps(Counts()), ((0, [(0, 1)]),)),
            (Heaps(Counts()), ((0, 1),)), (Pair(Costs(), Truth()), ((0, (None, False)),)), (Wheel(3), ((0, 3),)),
            (Pair(Costs(), Truth()), ((0, (None, True, True)),)),
        ]:
            with self.subTest(kind=kind, thing=repr(thing)):
                self.assertIs(Heaps(kind).holds(thing), False)

    def test_shown(self):
        for kind, a, asked in [
            (Counts(), (), "{}"), (Counts(), ((-2, 3), (15, 1)), "{-2: 3, 15: 1}"), (Counts(), ((0, 1),), "{0: 1}"),
            (Truth(), ((-1, True),), "{-1: yes}"), (Costs(), ((7, -3), (8, 0)), "{7: -3, 8: 0}"), (Voices(), ((0, ()),), "{0: nobody}"),
            (Heaps(Counts()), ((1, ((2, 3),)), (4, ((5, 6), (7, 8)))), "{1: {2: 3}, 4: {5: 6, 7: 8}}"),
            (Pair(Costs(), Least()), ((1, (None, (("a", "b"), ("c",)))),), "{1: [never, a*b + c]}"),
            (Counts(), ((LONGEST, SIXTY),), "{" + "9" * 60 + ": 1" + "0" * 58 + "7}"),
        ]:
            self.same(Heaps(kind).shown(a), asked)

    def test_a_thousand_numbers(self):
        heap = tuple([(number, 1) for number in range(-500, 500)])
        self.assertIs(self.kind.holds(heap), True)
        self.assertEqual(self.kind.plus(heap, heap), tuple([(number, 2) for number in range(-500, 500)]))
        told = self.kind.times(heap, heap)
        self.assertEqual(told, tuple([(number, 1000 - abs(number + 1)) for number in range(-1000, 999)]))
        self.assertEqual(sum_of(heap), -500)

    def test_ten_within_one_another(self):
        kind, note, text = Counts(), 2, "2"
        for at in range(9):
            kind, note, text = Heaps(kind), ((at - 3, note),), "{" + f"{at - 3}: {text}" + "}"
        self.assertIs(kind.holds(note), True)
        self.assertIs(kind.holds(((0, note),)), False)
        self.same(kind.shown(note), text)
        self.same(kind.times(note, kind.one()), note)
        self.same(kind.many(3, note), kind.plus(note, kind.plus(note, note)))


class Lifted(Exact):
    def test_ordinary_heaps(self):
        lift = lifted(Truth(), lambda note: note > 0)
        self.same(lift(((-2, 3), (15, 1))), ((-2, True), (15, True)))
        self.same(lifted(Wheel(5), lambda note: note % 5)(((1, 7), (2, 11))), ((1, 2), (2, 1)))
        self.same(lifted(Counts(), lambda note: 4)(((-1, True), (1, True))), ((-1, 4), (1, 4)))

    def test_the_empty_heap(self):
        self.same(lifted(Truth(), lambda note: True)(()), ())

    def test_what_comes_to_nought_is_not_there(self):
        self.same(lifted(Wheel(2), lambda note: note % 2)(((-3, 2), (0, 1), (4, 4), (5, 3))), ((0, 1), (5, 1)))
        self.same(lifted(Wheel(2), lambda note: note % 2)(((1, 2),)), ())
        self.same(lifted(Costs(), lambda note: None if note == 2 else 0)(((1, 2), (2, 3))), ((2, 0),))
        # Nought of the kind that it is lifted to, not of the other: 0 is one of Costs.
        self.same(lifted(Costs(), lambda note: 0)(((1, 2),)), ((1, 0),))
        self.same(lifted(Truth(), lambda note: note is not None and note < 5)(((1, 0), (2, 9))), ((1, True),))

    def test_a_turn_becomes_a_turn(self):
        one, other = Heaps(Counts()), Heaps(Wheel(6))
        lift = lifted(Wheel(6), lambda note: note % 6)
        self.same(lift(one.nought()), other.nought())
        self.same(lift(one.one()), other.one())
        for a, b in itertools.product(COUNTED, COUNTED):
            self.same(lift(one.plus(a, b)), other.plus(lift(a), lift(b)))
            self.same(lift(one.times(a, b)), other.times(lift(a), lift(b)))

    def test_lifted_twice(self):
        lift = lifted(Heaps(Truth()), lifted(Truth(), lambda note: note != 2))
        self.same(lift(((1, ((0, 2),)), (2, ((0, 2), (1, 3))))), ((2, ((1, True),)),))

    def test_nothing_is_changed(self):
        heap = ((-2, 3), (15, 1))
        before = copy.deepcopy(heap)
        lifted(Wheel(3), lambda note: note % 3)(heap)
        self.same(heap, before)


class Sums(Exact):
    def test_sums(self):
        for heap, asked in [
            ((), 0), (((0, 5),), 0), (((3, 1),), 3), (((3, 4),), 12), (((-2, 3), (15, 1)), 9), (((-2, 3),), -6),
            (((-4, 1), (2, 2)), 0), (((-LONGEST, 1), (SIXTY, 2)), 2 * SIXTY - LONGEST), (((2, SIXTY),), 2 * SIXTY),
            (((LONGEST, LONGEST),), LONGEST * LONGEST),
        ]:
            with self.subTest(heap=heap):
                self.same(sum_of(heap), asked)

    def test_of_a_sum_of_heaps(self):
        for a, b in itertools.product(COUNTED, COUNTED):
            self.same(sum_of(Heaps(Counts()).plus(a, b)), sum_of(a) + sum_of(b))


if __name__ == "__main__":
    unittest.main()
