"""Point 27: tables heaped by a column and by columns."""

import copy
import unittest

from samples import LONGEST, SIXTY, Chance, Exact, all_notes

from whencewise.errors import NoColumn, Twice
from whencewise.heaps import Heaps, lifted, sum_of
from whencewise.kinds import Costs, Counts, Pair, Truth, Wheel
from whencewise.least import Least
from whencewise.reasons import Reasons, fact, valued
from whencewise.sums import heaped
from whencewise.tables import table, turned

SOLD = table(Counts(), ("who", "what", "price"), [
    (("ann", "egg", 3), 2), (("ann", "ham", 5), 1), (("bob", "egg", 3), 4), (("bob", "gift", -2), 1), (("bob", "talk", "free"), 7),
    (("cid", "egg", 0), 1), (("ann", "tea", 3), 10), (("bob", "air", 0), 2), ((9, "egg", SIXTY), 1),
])


class Heaped(Exact):
    def told(self, column, columns, asked):
        self.same(heaped(Counts(), SOLD, column, columns), (columns, asked))

    def test_by_a_column(self):
        self.told("price", ("who",), (
            ((9,), ((SIXTY, 1),)), (("ann",), ((3, 12), (5, 1))), (("bob",), ((-2, 1), (0, 9), (3, 4))), (("cid",), ((0, 1),)),
        ))
        self.told("price", ("what",), (
            (("air",), ((0, 2),)), (("egg",), ((0, 1), (3, 6), (SIXTY, 1))), (("gift",), ((-2, 1),)), (("ham",), ((5, 1),)), (("talk",), ((0, 7),)),
            (("tea",), ((3, 10),)),
        ))

    def test_in_this_order(self):
        some = table(Counts(), ("a", "b", "c"), [((1, 5, 7), 2), ((2, 4, 7), 3)])
        self.same(heaped(Counts(), some, "c", ("b", "a")), (("b", "a"), (((4, 2), ((7, 3),)), ((5, 1), ((7, 2),)))))

    def test_texts(self):
        self.told("what", (), (((), ((0, 29),)),))
        self.told("who", (), (((), ((0, 28), (9, 1))),))

    def test_column_among_the_columns(self):
        self.told("price", ("price",), (
            ((-2,), ((-2, 1),)), ((0,), ((0, 3),)), ((3,), ((3, 16),)), ((5,), ((5, 1),)), ((SIXTY,), ((SIXTY, 1),)), (("free",), ((0, 7),)),
        ))

    def test_no_columns(self):
        self.told("price", (), (((), ((-2, 1), (0, 10), (3, 16), (5, 1), (SIXTY, 1))),))
        self.same(heaped(Counts(), (("a",), ()), "a", ()), ((), ()))
        self.same(heaped(Counts(), (("a",), ()), "a", ("a",)), (("a",), ()))

    def test_what_comes_to_nought(self):
        some = table(Wheel(6), ("a", "b", "c"), [((1, 1, 5), 2), ((1, 2, 5), 4), ((1, 3, 7), 1), ((2, 1, 5), 3), ((2, 2, 5), 3)])
        self.same(heaped(Wheel(6), some, "c", ("a",)), (("a",), (((1,), ((7, 1),)),)))
        self.same(heaped(Wheel(6), some, "c", ()), ((), (((), ((7, 1),)),)))

    def test_each_kind(self):
        for word, kind, notes in all_notes():
            some = table(kind, ("a", "b"), [((at % 2, at - 3), note) for at, note in enumerate(notes)])
            pairs = [((at % 2,), ((at - 3, note),)) for at, note in enumerate(notes) if note != kind.nought()]
            with self.subTest(kind=word):
                told = heaped(kind, some, "b", ("a",))
                self.same(told, table(Heaps(kind), ("a",), pairs))
                self.assertTrue(all(Heaps(kind).holds(heap) for row, heap in told[1]))

    def test_a_note_of_its_own(self):
        some = table(Reasons(), ("a", "b"), [((1, 2), fact("e")), ((2, 2), fact("f")), ((3, 4), fact("e"))])
        both = ((("e",), (), 1), (("f",), (), 1))
        self.same(heaped(Reasons(), some, "b", ()), ((), (((), ((2, both), (4, fact("e")))),)))

    def test_two_thousand_rows(self):
        some = table(Counts(), ("a", "b"), [((at, at % 1000), 1) for at in range(2000)])
        told = heaped(Counts(), some, "b", ())
        self.same(told, ((), (((), tuple((at, 2) for at in range(1000))),)))

    def test_nothing_is_changed(self):
        some = copy.deepcopy(SOLD)
        heaped(Counts(), some, "price", ("who",))
        self.same(some, SOLD)


class Refused(Exact):
    def test_as_total_is(self):
        for some in [SOLD, (SOLD[0], ())]:
            for error, column, columns in [
                (NoColumn, "z", ()), (NoColumn, "z", ("who",)), (NoColumn, "price", ("z",)), (NoColumn, "price", ("who", "z")),
                (Twice, "price", ("who", "who")), (Twice, "price", ("who", "price", "who")), (NoColumn, "z", ("who", "who")),
                (Twice, "price", ("who", "who", "z")), (NoColumn, "price", ("who", "z", "who")), (NoColumn, "price", ("z", "z")),
            ]:
                with self.subTest(column=column, columns=columns):
                    self.refuses(error, heaped, Counts(), some, column, columns)
        self.refuses(NoColumn, heaped, Counts(), ((), (((), 1),)), "a", ())


class Sums(Exact):
    def test_sum_by_groups(self):
        told = heaped(Counts(), SOLD, "price", ("who",))
        self.same([(row, sum_of(heap)) for row, heap in told[1]], [((9,), SIXTY), (("ann",), 41), (("bob",), 10), (("cid",), 0)])

    def keeps(self, some, kind, other, way):
        """Heaped and then turned is turned and then heaped."""
        for column in some[0]:
            for columns in [(), some[0][:1], some[0][::-1], (column,)]:
                one = turned(heaped(kind, some, column, columns), Heaps(other), lifted(other, way))
                self.same(one, heaped(other, turned(some, other, way), column, columns))

    def test_turns_are_kept(self):
        for seed in range(30):
            chance = Chance(seed, values=(-1, 0, 3, LONGEST, "x"))
            rows = [chance.row(3) for _ in range(20)]
            some = table(Counts(), ("a", "b", "c"), [(row, at % 5) for at, row in enumerate(rows)])
            self.keeps(some, Counts(), Truth(), lambda note: note > 0)
            self.keeps(some, Counts(), Wheel(2), lambda note: note % 2)
            pairs = table(Pair(Counts(), Costs()), ("a", "b", "c"), [(row, (at % 3, [None, 4, at][at % 3])) for at, row in enumerate(rows)])
            self.keeps(pairs, Pair(Counts(), Costs()), Costs(), lambda note: note[1])
            why = table(Reasons(), ("a", "b", "c"), [(row, fact("efgh"[at % 4])) for at, row in enumerate(rows)])
            for kind, worths in [
                (Counts(), {"e": 2, "f": 1}), (Costs(), {"e": 2, "f": -1, "g": 0}), (Least(), {"e": (("p",),), "h": (("p",), ("q",))}),
                (Wheel(3), {"e": 1, "f": 2, "g": 2, "h": 1}),
            ]:
                self.keeps(why, Reasons(), kind, valued(kind, worths))


if __name__ == "__main__":
    unittest.main()
