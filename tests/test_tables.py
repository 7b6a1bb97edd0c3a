"""Points 20 to 22: the rank of values, tables made and turned, and the note of a row."""

import copy
import itertools
import unittest

from samples import LONGEST, SIXTY, Exact

from whencewise.errors import Misfit, NoName, NoNote, Twice
from whencewise.heaps import Heaps
from whencewise.kinds import Costs, Counts, Pair, Sure, Truth, Voices, Wheel
from whencewise.least import Least
from whencewise.reasons import Reasons, fact, valued
from whencewise.tables import note_of, rank, table, turned

NO_NAMES = ["", "A", "0", "0a", "a b", "a_", "a" * 41, 0, 1, True, False, None, b"a", [], ["a"], (), ("a",), {}, {"a"}, object(), 1.5]
VALUES = [-LONGEST, -10, -2, -1, 0, 1, 2, 9, 10, SIXTY, "", " ", "!", "-1", "0", "10", "9", "A", "Z", "a", "aa", "ab", "b", "~"]


class Rank(Exact):
    def test_rank(self):
        for value, asked in [
            (0, (0, 0, "")), (7, (0, 7, "")), (-7, (0, -7, "")), (LONGEST, (0, LONGEST, "")), ("", (1, 0, "")), ("a", (1, 0, "a")),
            ("7", (1, 0, "7")), ("a b\n\t", (1, 0, "a b\n\t")),
        ]:
            self.same(rank(value), asked)

    def test_order(self):
        for (at, one), (beside, other) in itertools.product(enumerate(VALUES), enumerate(VALUES)):
            self.assertEqual(rank(one) < rank(other), at < beside, (one, other))


class Made(Exact):
    def test_rows_in_any_order(self):
        pairs = [(("a", 1), 1), ((2, "b"), 2), ((2, 5), 3), ((-3, "z"), 4), (("a", "a"), 5), ((10, 0), 6)]
        asked = (("x", "y"), (((-3, "z"), 4), ((2, 5), 3), ((2, "b"), 2), ((10, 0), 6), (("a", 1), 1), (("a", "a"), 5)))
        for some in itertools.permutations(pairs):
            self.same(table(Counts(), ("x", "y"), list(some)), asked)

    def test_sorted_by_rank(self):
        pairs = [((value,), 1) for value in VALUES]
        self.same(table(Counts(), ["x"], pairs[::-1]), (("x",), tuple(pairs)))
        twos = [((one, other), 1) for one in VALUES for other in VALUES]
        self.same(table(Counts(), ["x", "y"], twos[::-1]), (("x", "y"), tuple(twos)))

    def test_lists_and_tuples(self):
        asked = (("x",), (((1,), 2), ((3,), 4)))
        for columns in [["x"], ("x",)]:
            for pairs in [[((3,), 4), ((1,), 2)], (((3,), 4), ((1,), 2))]:
                self.same(table(Counts(), columns, pairs), asked)

    def test_alike_rows(self):
        self.same(table(Counts(), ["x"], [((1,), 2), ((2,), 1), ((1,), 3), ((1,), 4)]), (("x",), (((1,), 9), ((2,), 1))))
        self.same(table(Costs(), ["x"], [((1,), 2), ((1,), -3), ((1,), None)]), (("x",), (((1,), -3),)))
        self.same(table(Truth(), ["x"], [((1,), False), ((1,), True)]), (("x",), (((1,), True),)))
        self.same(table(Sure(), ["x"], [((1,), (1, 2)), ((1,), (2, 3))]), (("x",), (((1,), (2, 3)),)))
        self.same(table(Voices(), ["x"], [((1,), ("b",)), ((1,), ("a",))]), (("x",), (((1,), ("a", "b")),)))
        self.same(table(Least(), ["x"], [((1,), (("a", "b"),)), ((1,), (("a",),))]), (("x",), (((1,), (("a",),)),)))
        self.same(table(Heaps(Counts()), ["x"], [((1,), ((5, 1),)), ((1,), ((2, 1),))]), (("x",), (((1,), ((2, 1), (5, 1))),)))
        self.same(table(Reasons(), ["x"], [((1,), fact("b")), ((1,), fact("a")), ((1,), fact("b"))]), (
            ("x",), (((1,), ((("a",), (), 1), (("b",), (), 2))),)))

    def test_number_and_text_are_not_alike(self):
        self.same(table(Counts(), ["x"], [(("1",), 2), ((1,), 3)]), (("x",), (((1,), 3), (("1",), 2))))

    def test_notes_that_come_to_nought(self):
        self.same(table(Counts(), ["x"], [((1,), 0), ((2,), 1)]), (("x",), (((2,), 1),)))
        self.same(table(Wheel(5), ["x"], [((1,), 2), ((2,), 1), ((1,), 3)]), (("x",), (((2,), 1),)))
        self.same(table(Wheel(2), ["x"], [((1,), 1), ((1,), 1), ((1,), 1)]), (("x",), (((1,), 1),)))
        self.same(table(Costs(), ["x"], [((1,), None), ((2,), 0)]), (("x",), (((2,), 0),)))
        self.same(table(Sure(), ["x"], [((1,), (0, 1))]), (("x",), ()))
        self.same(table(Pair(Wheel(2), Truth()), ["x"], [((1,), (1, False)), ((1,), (1, False)), ((2,), (0, True))]), (
            ("x",), (((2,), (0, True)),)))

    def test_no_rows(self):
        self.same(table(Counts(), ["x", "y"], []), (("x", "y"), ()))
        self.same(table(Counts(), [], ()), ((), ()))

    def test_no_columns(self):
        self.same(table(Counts(), [], [((), 2), ((), 3)]), ((), (((), 5),)))
        self.same(table(Counts(), (), [((), 0)]), ((), ()))

    def test_made_again_it_is_the_same(self):
        one = table(Counts(), ["x", "y"], [((2, "b"), 2), (("a", 1), 1), ((2, "b"), 5)])
        self.same(table(Counts(), one[0], one[1]), one)

    def test_two_hundred_rows(self):
        pairs = [((at * 7 % 200, str(at)), at + 1) for at in range(200)]
        told = table(Counts(), ["x", "y"], pairs)
        self.assertEqual([row[0] for row, note in told[1]], list(range(200)))
        self.assertEqual(sorted(told[1]), sorted(pairs))

    def test_nothing_is_changed(self):
        columns, pairs = ["x"], [((3,), 4), ((1,), 2), ((1,), 0)]
        before = copy.deepcopy((columns, pairs))
        told = table(Counts(), columns, pairs)
        self.same((columns, pairs), before)
        columns.append("y")
        pairs.clear()
        self.same(told, (("x",), (((1,), 2), ((3,), 4))))


class Refused(Exact):
    def test_no_names(self):
        for thing in NO_NAMES:
            with self.subTest(thing=repr(thing)):
                for columns in [[thing], ["x", thing], [thing, "x"], [thing, thing], ["x", thing, "x"]]:
                    self.refuses(NoName, table, Counts(), columns, [])
                    self.refuses(NoName, table, Counts(), tuple(columns), [])

    def test_twice(self):
        for columns in [["x", "x"], ["x", "y", "x"], ["x", "y", "y"], ("x", "x", "x"), ["x", "x", "A"], ["x", "x", None], ["x", "x", []]]:
            self.refuses(Twice, table, Counts(), columns, [])

    def test_columns_ahead_of_pairs(self):
        self.refuses(NoName, table, Counts(), ["A"], [((1, 2), -1)])
        self.refuses(Twice, table, Counts(), ["x", "x"], [((1,), "a")])

    def test_misfit(self):
        for columns, row in [
            (["x"], ()), (["x"], (1, 2)), ([], (1,)), (["x", "y"], (1,)), (["x", "y"], (1, 2, 3)), (["x", "y"], ()), ([], (1, 2)),
        ]:
            self.refuses(Misfit, table, Counts(), columns, [(row, 1)])
            self.refuses(Misfit, table, Counts(), columns, [(row, 0)])
            self.refuses(Misfit, table, Counts(), columns, [(row, -1)])

    def test_no_note(self):
        for note in [-1, True, False, None, "1", "", [], [1], (), (1,), {}, {1}, object(), 1.0]:
            with self.subTest(note=repr(note)):
                self.refuses(NoNote, table, Counts(), ["x"], [((1,), note)])
                self.refuses(NoNote, table, Counts(), [], [((), note)])
        for kind, note in [
            (Truth(), 1), (Truth(), None), (Costs(), False), (Sure(), (2, 4)), (Voices(), ("b", "a")), (Wheel(3), 3), (Least(), ((), ("a",))),
            (Pair(Counts(), Counts()), (1,)), (Heaps(Counts()), ((1, 0),)), (Reasons(), "a"), (Reasons(), [(("a",), (), 1)]),
        ]:
            with self.subTest(kind=kind):
                self.refuses(NoNote, table, kind, ["x"], [((1,), note)])

    def test_pair_by_pair(self):
        self.refuses(Misfit, table, Counts(), ["x"], [((1,), 1), ((1, 2), 1), ((1,), -1)])
        self.refuses(NoNote, table, Counts(), ["x"], [((1,), 1), ((1,), -1), ((1, 2), 1)])
        self.refuses(NoNote, table, Counts(), ["x"], [((1,), 1), ((1,), None)])

    def test_refused_before_it_could_come_to_nought(self):
        self.refuses(NoNote, table, Wheel(5), ["x"], [((1,), 5)])
        self.refuses(NoNote, table, Counts(), ["x"], [((1,), 1), ((1,), -1)])


class Turned(Exact):
    some = (("x", "y"), (((1, "a"), 1), ((2, "a"), 2), (("b", 3), 4)))

    def test_ordinary(self):
        self.same(turned(self.some, Counts(), lambda note: note + 1), (("x", "y"), (((1, "a"), 2), ((2, "a"), 3), (("b", 3), 5))))
        self.same(turned(self.some, Truth(), lambda note: note > 0), (("x", "y"), (((1, "a"), True), ((2, "a"), True), (("b", 3), True))))

    def test_notes_that_come_to_nought(self):
        self.same(turned(self.some, Wheel(2), lambda note: note % 2), (("x", "y"), (((1, "a"), 1),)))
        self.same(turned(self.some, Wheel(4), lambda note: note % 4), (("x", "y"), (((1, "a"), 1), ((2, "a"), 2))))
        self.same(turned(self.some, Truth(), lambda note: False), (("x", "y"), ()))
        # Nought of the kind that it is turned to: 0 is one of Costs, None its nought.
        self.same(turned(self.some, Costs(), lambda note: 0), (("x", "y"), (((1, "a"), 0), ((2, "a"), 0), (("b", 3), 0))))
        self.same(turned(self.some, Costs(), lambda note: None if note > 1 else note), (("x", "y"), (((1, "a"), 1),)))

    def test_no_rows_and_no_columns(self):
        self.same(turned((("x",), ()), Truth(), lambda note: True), (("x",), ()))
        self.same(turned(((), (((), 3),)), Counts(), lambda note: 2 * note), ((), (((), 6),)))

    def test_by_worths(self):
        some = table(Reasons(), ["x"], [((1,), fact("a")), ((2,), fact("b")), ((1,), fact("b")), ((3,), Reasons().lack(fact("b")))])
        self.same(turned(some, Counts(), valued(Counts(), {"a": 4, "b": 5})), (("x",), (((1,), 9), ((2,), 5))))
        self.same(turned(some, Counts(), valued(Counts(), {"a": 4})), (("x",), (((1,), 4), ((3,), 1))))

    def test_nothing_is_changed(self):
        before = copy.deepcopy(self.some)
        turned(self.some, Wheel(2), lambda note: note % 2)
        self.same(self.some, before)


class NoteOf(Exact):
    def test_a_row_that_is_there(self):
        some = table(Counts(), ["x", "y"], [((1, "a"), 5), (("1", "a"), 6), ((1, "b"), 7), ((SIXTY, ""), 8)])
        for row, asked in [((1, "a"), 5), (("1", "a"), 6), ((1, "b"), 7), ((SIXTY, ""), 8)]:
            self.same(note_of(some, Counts(), row), asked)

    def test_a_row_that_is_not(self):
        some = table(Counts(), ["x", "y"], [((1, "a"), 5), ((2, "b"), 7)])
        for row in [(1, "b"), ("1", "a"), (0, "a"), ("a", 1), (2, "a"), (), (1,), (1, "a", 1)]:
            self.same(note_of(some, Counts(), row), 0)
        self.same(note_of((("x",), ()), Costs(), (1,)), None)
        self.same(note_of((("x",), ()), Truth(), (1,)), False)
        self.same(note_of((("x",), ()), Sure(), (1,)), (0, 1))
        self.same(note_of((("x",), (((2,), (1, 2)),)), Sure(), (1,)), (0, 1))

    def test_no_columns(self):
        self.same(note_of(((), (((), 3),)), Counts(), ()), 3)
        self.same(note_of(((), ()), Counts(), ()), 0)


if __name__ == "__main__":
    unittest.main()
