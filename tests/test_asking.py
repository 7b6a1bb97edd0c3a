"""Points 24 to 26: each of the eight askings asked, askings within one another, and what is refused."""

import copy
import unittest

from samples import LONGEST, N, R, REFUSALS, S, SHAPES, TRUE, U, W, Exact, all_notes, of

from whencewise.asking import ask
from whencewise.heaps import Heaps
from whencewise.kinds import Costs, Counts, Pair, Sure, Truth, Voices, Wheel
from whencewise.least import Least
from whencewise.reasons import Reasons, fact
from whencewise.tables import table

FIFTY = 10 ** 49 + 3
E, F, G, H = fact("e"), fact("f"), fact("g"), fact("h")


def counts(columns, *pairs):
    return table(Counts(), columns, list(pairs))


def because(columns, *pairs):
    return table(Reasons(), columns, list(pairs))


COUNTED = {
    "r": counts(("a", "b"), ((1, "x"), 2), ((1, "y"), 3), ((2, "x"), 5), (("k", 7), 1)),
    "s": counts(("b", "c"), (("x", 4), 7), (("x", "z"), 1), (("y", 4), 10), ((8, 8), 1)),
    "u": counts(("b", "a"), (("x", 1), 4), (("x", 9), 6)),
    "n": counts((), ((), 3)),
    "e": counts(("a", "b")),
    "w": counts(("a", "b", "c"), ((1, "x", 1), 1), ((1, "x", 2), 2), ((3, "x", 1), 4), (("k", "k", "k"), 8)),
}
REASONED = {
    "r": because(("a", "b"), ((1, "x"), E), ((1, "y"), F), ((2, "x"), G)),
    "s": because(("b", "c"), (("x", 4), H), (("x", "z"), E), (("y", 4), F)),
    "u": because(("b", "a"), (("x", 1), H), (("y", 1), F)),
    "n": because((), ((), E)),
    "e": because(("a", "b")),
    "w": because(("a", "b", "c"), ((1, "x", 1), E), ((1, "x", 2), F), ((3, "x", 1), G)),
}


class Asked(Exact):
    def count(self, asking, columns, *pairs):
        with self.subTest(asking=asking):
            self.same(ask(Counts(), asking, COUNTED), (columns, pairs))

    def reason(self, asking, columns, *pairs):
        with self.subTest(asking=asking):
            self.same(ask(Reasons(), asking, REASONED), (columns, pairs))


class Table(Asked):
    def test_the_table_itself(self):
        for name in COUNTED:
            self.count(("table", name), *[COUNTED[name][0]] + list(COUNTED[name][1]))
        for name in REASONED:
            self.reason(("table", name), *[REASONED[name][0]] + list(REASONED[name][1]))


class Pick(Asked):
    def test_rows_that_pass(self):
        self.count(("pick", R, ("same", of("a"), ("just", 1))), ("a", "b"), ((1, "x"), 2), ((1, "y"), 3))
        self.count(("pick", R, ("under", of("a"), of("b"))), ("a", "b"), ((1, "x"), 2), ((1, "y"), 3), ((2, "x"), 5))
        self.count(("pick", R, ("under", of("b"), of("a"))), ("a", "b"), (("k", 7), 1))
        self.count(("pick", R, ("not", ("same", of("b"), ("just", "x")))), ("a", "b"), ((1, "y"), 3), (("k", 7), 1))
        self.reason(("pick", R, ("same", of("b"), ("just", "x"))), ("a", "b"), ((1, "x"), E), ((2, "x"), G))

    def test_all_and_none(self):
        self.count(("pick", R, TRUE), *[("a", "b")] + list(COUNTED["r"][1]))
        self.count(("pick", R, ("not", TRUE)), ("a", "b"))
        self.count(("pick", N, TRUE), (), ((), 3))
        self.count(("pick", N, ("not", TRUE)), ())
        self.reason(("pick", ("table", "e"), TRUE), ("a", "b"))

    def test_columns_in_their_own_order(self):
        self.count(("pick", U, ("same", of("a"), ("just", 9))), ("b", "a"), (("x", 9), 6))


class Keep(Asked):
    def test_alike_rows_are_poured(self):
        self.count(("keep", R, ("a",)), ("a",), ((1,), 5), ((2,), 5), (("k",), 1))
        self.reason(("keep", R, ("a",)), ("a",), ((1,), ((("e",), (), 1), (("f",), (), 1))), ((2,), G))

    def test_in_this_order_and_sorted(self):
        self.count(("keep", R, ("b", "a")), ("b", "a"), ((7, "k"), 1), (("x", 1), 2), (("x", 2), 5), (("y", 1), 3))
        self.count(("keep", R, ("b",)), ("b",), ((7,), 1), (("x",), 7), (("y",), 3))
        self.count(("keep", W, ("c", "a")), ("c", "a"), ((1, 1), 1), ((1, 3), 4), ((2, 1), 2), (("k", "k"), 8))
        self.reason(("keep", W, ("c", "b")), ("c", "b"), ((1, "x"), ((("e",), (), 1), (("g",), (), 1))), ((2, "x"), F))

    def test_no_columns(self):
        self.count(("keep", R, ()), (), ((), 11))
        self.count(("keep", N, ()), (), ((), 3))
        self.count(("keep", ("table", "e"), ()), ())
        self.reason(("keep", R, ()), (), ((), ((("e",), (), 1), (("f",), (), 1), (("g",), (), 1))))

    def test_what_comes_to_nought(self):
        store = {"r": table(Wheel(6), ("a", "b"), [((1, 1), 2), ((1, 2), 4), ((2, 1), 5)])}
        self.same(ask(Wheel(6), ("keep", R, ("a",)), store), (("a",), (((2,), 5),)))
        self.same(ask(Wheel(6), ("keep", R, ()), store), ((), (((), 5),)))


class Call(Asked):
    def test_other_names(self):
        self.count(("call", U, ("p", "q")), ("p", "q"), (("x", 1), 4), (("x", 9), 6))
        self.reason(("call", U, ("p", "q")), ("p", "q"), (("x", 1), H), (("y", 1), F))
        self.count(("call", N, ()), (), ((), 3))

    def test_columns_turned_about(self):
        self.count(("call", U, ("a", "b")), ("a", "b"), (("x", 1), 4), (("x", 9), 6))
        self.count(("keep", ("call", U, ("a", "b")), ("b",)), ("b",), ((1,), 4), ((9,), 6))
        self.count(("join", U, ("call", U, ("a", "b"))), ("b", "a"))
        self.count(("pick", ("call", U, ("a", "b")), ("same", of("b"), ("just", 9))), ("a", "b"), (("x", 9), 6))


class Join(Asked):
    def test_some_columns_in_both(self):
        self.count(
            ("join", R, S), ("a", "b", "c"), ((1, "x", 4), 14), ((1, "x", "z"), 2), ((1, "y", 4), 30), ((2, "x", 4), 35), ((2, "x", "z"), 5),
        )
        self.count(
            ("join", S, R), ("b", "c", "a"), (("x", 4, 1), 14), (("x", 4, 2), 35), (("x", "z", 1), 2), (("x", "z", 2), 5), (("y", 4, 1), 30),
        )
        self.reason(
            ("join", R, S), ("a", "b", "c"), ((1, "x", 4), ((("e", "h"), (), 1),)), ((1, "x", "z"), ((("e", "e"), (), 1),)),
            ((1, "y", 4), ((("f", "f"), (), 1),)), ((2, "x", 4), ((("g", "h"), (), 1),)), ((2, "x", "z"), ((("e", "g"), (), 1),)),
        )

    def test_all_columns_in_both(self):
        self.count(("join", R, U), ("a", "b"), ((1, "x"), 8))
        self.count(("join", U, R), ("b", "a"), (("x", 1), 8))
        self.count(("join", W, R), ("a", "b", "c"), ((1, "x", 1), 2), ((1, "x", 2), 4))
        self.count(("join", R, W), ("a", "b", "c"), ((1, "x", 1), 2), ((1, "x", 2), 4))
        self.reason(("join", R, U), ("a", "b"), ((1, "x"), ((("e", "h"), (), 1),)), ((1, "y"), ((("f", "f"), (), 1),)))

    def test_no_columns_in_both(self):
        named = ("call", U, ("p", "q"))
        self.count(
            ("join", ("keep", R, ("a",)), named), ("a", "p", "q"), ((1, "x", 1), 20), ((1, "x", 9), 30), ((2, "x", 1), 20), ((2, "x", 9), 30),
            (("k", "x", 1), 4), (("k", "x", 9), 6),
        )
        self.count(("join", N, U), ("b", "a"), (("x", 1), 12), (("x", 9), 18))
        self.count(("join", U, N), ("b", "a"), (("x", 1), 12), (("x", 9), 18))
        self.count(("join", N, N), (), ((), 9))
        self.count(("join", named, ("table", "e")), ("p", "q", "a", "b"))
        self.count(("join", ("table", "e"), named), ("a", "b", "p", "q"))
        self.reason(("join", N, N), (), ((), ((("e", "e"), (), 1),)))

    def test_with_itself(self):
        self.count(("join", R, R), ("a", "b"), ((1, "x"), 4), ((1, "y"), 9), ((2, "x"), 25), (("k", 7), 1))
        kept = ("keep", R, ("b",))
        self.count(("join", R, kept), ("a", "b"), ((1, "x"), 14), ((1, "y"), 9), ((2, "x"), 35), (("k", 7), 1))
        self.reason(("join", U, U), ("b", "a"), (("x", 1), ((("h", "h"), (), 1),)), (("y", 1), ((("f", "f"), (), 1),)))

    def test_a_number_is_no_text(self):
        store = {"r": counts(("a",), ((1,), 2), (("1",), 3)), "s": counts(("a",), ((1,), 5), (("1",), 7), (("01",), 1))}
        self.same(ask(Counts(), ("join", R, S), store), (("a",), (((1,), 10), (("1",), 21))))

    def test_what_comes_to_nought(self):
        store = {"r": table(Wheel(6), ("a",), [((1,), 2), ((2,), 5)]), "s": table(Wheel(6), ("a",), [((1,), 3), ((2,), 5)])}
        self.same(ask(Wheel(6), ("join", R, S), store), (("a",), (((2,), 1),)))


class Pour(Asked):
    def test_rows_of_both(self):
        other = ("keep", U, ("a", "b"))
        self.count(("pour", R, other), ("a", "b"), ((1, "x"), 6), ((1, "y"), 3), ((2, "x"), 5), ((9, "x"), 6), (("k", 7), 1))
        self.count(("pour", other, R), ("a", "b"), ((1, "x"), 6), ((1, "y"), 3), ((2, "x"), 5), ((9, "x"), 6), (("k", 7), 1))
        self.reason(
            ("pour", R, other), ("a", "b"), ((1, "x"), ((("e",), (), 1), (("h",), (), 1))), ((1, "y"), ((("f",), (), 2),)), ((2, "x"), G),
        )
        self.count(("pour", N, N), (), ((), 6))
        self.count(("pour", R, ("table", "e")), *[("a", "b")] + list(COUNTED["r"][1]))
        self.count(("pour", ("table", "e"), R), *[("a", "b")] + list(COUNTED["r"][1]))

    def test_with_itself(self):
        self.count(("pour", U, U), ("b", "a"), (("x", 1), 8), (("x", 9), 12))
        self.reason(("pour", U, U), ("b", "a"), (("x", 1), ((("h",), (), 2),)), (("y", 1), ((("f",), (), 2),)))
        store = {"r": table(Wheel(6), ("a",), [((1,), 3), ((2,), 5)])}
        self.same(ask(Wheel(6), ("pour", R, R), store), (("a",), (((2,), 4),)))


class Total(Asked):
    def total(self, values, asked):
        """Of a row for each value, whose notes are 1, 2 and so on; the sum of all."""
        pairs = [((value, at), at + 1) for at, value in enumerate(values)]
        store = {"r": counts(("a", "b"), *pairs)}
        self.same(ask(Counts(), ("total", R, "a", ()), store), ((), (((), asked),) if asked else ()))

    def test_sums_by_groups(self):
        self.count(("total", W, "c", ("a",)), ("a",), ((1,), 5), ((3,), 4))
        self.count(("total", W, "a", ("c",)), ("c",), ((1,), 13), ((2,), 2))
        self.count(("total", W, "a", ("c", "b")), ("c", "b"), ((1, "x"), 13), ((2, "x"), 2))
        self.reason(("total", W, "a", ("c",)), ("c",), ((1,), ((("e",), (), 1), (("g",), (), 3))), ((2,), F))
        self.reason(("total", W, "c", ()), (), ((), ((("e",), (), 1), (("f",), (), 2), (("g",), (), 1))))

    def test_column_among_the_columns(self):
        self.count(("total", W, "c", ("c",)), ("c",), ((1,), 5), ((2,), 4))
        self.count(("total", W, "c", ("c", "a")), ("c", "a"), ((1, 1), 1), ((1, 3), 4), ((2, 1), 4))
        self.reason(("total", W, "c", ("a", "c")), ("a", "c"), ((1, 1), E), ((1, 2), ((("f",), (), 2),)), ((3, 1), G))

    def test_what_values_say(self):
        self.total([0], 0)
        self.total([-1], 0)
        self.total([-FIFTY], 0)
        self.total(["x"], 0)
        self.total([""], 0)
        self.total(["5"], 0)
        self.total([1], 1)
        self.total([FIFTY], FIFTY)
        self.total([FIFTY, -FIFTY, "x", 0, 5, 5], FIFTY + 5 * 5 + 5 * 6)
        self.total([LONGEST, LONGEST], 3 * LONGEST)

    def test_fifty_figures_in_other_kinds(self):
        store = {"r": table(Reasons(), ("a",), [((FIFTY,), E)])}
        self.same(ask(Reasons(), ("total", R, "a", ("a",)), store), (("a",), (((FIFTY,), ((("e",), (), FIFTY),)),)))
        for kind, note in [(Costs(), 5), (Truth(), True), (Least(), (("e",),))]:
            store = {"r": table(kind, ("a",), [((FIFTY,), note)])}
            self.same(ask(kind, ("total", R, "a", ()), store), ((), (((), note),)))
        store = {"r": table(Wheel(7), ("a",), [((FIFTY,), 3)])}
        self.same(ask(Wheel(7), ("total", R, "a", ()), store), ((), (((), FIFTY * 3 % 7),)))
        store = {"r": table(Wheel(7), ("a",), [((7,), 3), ((0,), 1)])}
        self.same(ask(Wheel(7), ("total", R, "a", ()), store), ((), ()))

    def test_a_row_that_says_0_beside_others(self):
        store = {"r": table(Costs(), ("a", "b"), [((0, 1), -9), ((3, 1), 4), ((-1, 1), -7), (("x", 1), -8), ((1, 1), 6), ((0, 2), 1)])}
        self.same(ask(Costs(), ("total", R, "a", ("b",)), store), (("b",), (((1,), 4),)))


class Leave(Asked):
    def test_rows_that_are_there_and_that_are_not(self):
        other = ("keep", U, ("a", "b"))
        self.count(("leave", R, other), ("a", "b"), ((1, "y"), 3), ((2, "x"), 5), (("k", 7), 1))
        self.reason(
            ("leave", R, other), ("a", "b"), ((1, "x"), ((("e",), (H,), 1),)), ((1, "y"), ((("f",), (F,), 1),)), ((2, "x"), G),
        )

    def test_fewer_columns_in_another_order(self):
        self.count(("leave", R, U), ("a", "b"), ((1, "y"), 3), ((2, "x"), 5), (("k", 7), 1))
        self.count(("leave", W, U), ("a", "b", "c"), ((3, "x", 1), 4), (("k", "k", "k"), 8))
        self.count(("leave", R, ("keep", S, ("b",))), ("a", "b"), (("k", 7), 1))
        self.count(("leave", U, R), ("b", "a"), (("x", 9), 6))
        self.reason(
            ("leave", W, U), ("a", "b", "c"), ((1, "x", 1), ((("e",), (H,), 1),)), ((1, "x", 2), ((("f",), (H,), 1),)), ((3, "x", 1), G),
        )

    def test_no_columns(self):
        self.count(("leave", R, N), ("a", "b"))
        self.count(("leave", R, ("keep", ("table", "e"), ())), *[("a", "b")] + list(COUNTED["r"][1]))
        self.count(("leave", N, N), ())
        self.reason(("leave", N, N), (), ((), ((("e",), (E,), 1),)))
        both = ((("e",), (), 1), (("f",), (), 1), (("g",), (), 1))
        self.reason(("leave", U, ("keep", R, ())), ("b", "a"), (("x", 1), ((("h",), (both,), 1),)), (("y", 1), ((("f",), (both,), 1),)))

    def test_out_of_itself(self):
        self.count(("leave", R, R), ("a", "b"))
        self.reason(
            ("leave", R, R), ("a", "b"), ((1, "x"), ((("e",), (E,), 1),)), ((1, "y"), ((("f",), (F,), 1),)), ((2, "x"), ((("g",), (G,), 1),)),
        )

    def test_leaves_within_leaves(self):
        twice = ("leave", R, ("leave", R, R))
        self.count(twice, *[("a", "b")] + list(COUNTED["r"][1]))
        barred = ((("g",), (G,), 1),)
        self.reason(("pick", twice, ("same", of("a"), ("just", 2))), ("a", "b"), ((2, "x"), ((("g",), (barred,), 1),)))
        # A bar that is there already stays one bar.
        same = ("leave", ("leave", R, U), U)
        self.reason(same, ("a", "b"), ((1, "x"), ((("e",), (H,), 1),)), ((1, "y"), ((("f",), (F,), 1),)), ((2, "x"), G))
        other = ("leave", ("leave", R, U), ("keep", S, ("b",)))
        both = ((("e",), (), 1), (("h",), (), 1))
        self.reason(
            other, ("a", "b"), ((1, "x"), ((("e",), (both, H), 1),)), ((1, "y"), ((("f",), (F,), 1),)), ((2, "x"), ((("g",), (both,), 1),)),
        )

    def test_place_by_place(self):
        kind = Pair(Counts(), Truth())
        store = {
            "r": table(kind, ("a",), [((1,), (2, True)), ((2,), (3, True)), ((3,), (4, False)), ((4,), (5, True))]),
            "s": table(kind, ("a",), [((1,), (1, False)), ((2,), (0, True)), ((3,), (1, False)), ((5,), (1, True))]),
        }
        asked = (("a",), (((1,), (0, True)), ((2,), (3, False)), ((4,), (5, True))))
        self.same(ask(kind, ("leave", R, S), store), asked)


class Within(Asked):
    def test_askings_within_one_another(self):
        both = ("join", R, S)
        asking = ("total", ("pick", both, ("under", of("a"), of("c"))), "c", ("b",))
        self.count(asking, ("b",), (("x",), 4 * 14 + 4 * 35), (("y",), 120))
        self.reason(asking, ("b",), (("x",), ((("e", "h"), (), 4), (("g", "h"), (), 4))), (("y",), ((("f", "f"), (), 4),)))
        asking = ("keep", ("leave", ("pour", R, ("call", S, ("a", "b"))), ("keep", U, ("a",))), ("b",))
        self.count(asking, ("b",), ((4,), 17), ((7,), 1), ((8,), 1), (("x",), 5), (("z",), 1))

    def test_thirty_deep(self):
        asking = R
        for at in range(28):
            asking = [("pick", asking, TRUE), ("keep", asking, ("a", "b")), ("leave", asking, ("table", "e")), ("pour", asking, ("table", "e"))][at % 4]
        self.count(asking, *[("a", "b")] + list(COUNTED["r"][1]))
        self.reason(asking, *[("a", "b")] + list(REASONED["r"][1]))

    def test_sixteen_tables(self):
        asking = R
        for at in range(15):
            asking = ("join", asking, R) if at % 2 else ("join", R, asking)
        self.count(asking, ("a", "b"), ((1, "x"), 2 ** 16), ((1, "y"), 3 ** 16), ((2, "x"), 5 ** 16), (("k", 7), 1))
        self.reason(asking, ("a", "b"), *[(row, ((note[0][0] * 16, (), 1),)) for row, note in REASONED["r"][1]])

    def test_nothing_is_changed(self):
        store = copy.deepcopy(REASONED)
        ask(Reasons(), ("leave", ("total", ("pour", R, R), "a", ("a",)), ("keep", S, ())), store)
        self.same(store, REASONED)

    def test_other_tables_are_not_looked_at(self):
        self.same(ask(Counts(), ("table", "keep"), {"keep": counts(("a",), ((1,), 2))}), (("a",), (((1,), 2),)))


class Large(Asked):
    def test_two_hundred_rows(self):
        rows = [((at, at % 7), fact(f"f{at}")) for at in range(200)]
        store = {"r": because(("a", "b"), *rows), "s": because(("b", "c"), *[((at % 7, at), fact(f"g{at}")) for at in range(70)])}
        both = ask(Reasons(), ("join", R, S), store)
        self.assertEqual(len(both[1]), 2000)
        self.assertEqual(list(both[1]), sorted(both[1]))
        told = ask(Reasons(), ("total", ("join", R, S), "b", ()), store)
        self.assertEqual(len(told[1][0][1]), sum(10 for at in range(200) if at % 7))
        left = ask(Reasons(), ("leave", R, ("keep", ("join", R, S), ("b",))), store)
        self.assertEqual([len(note[0][1][0]) for row, note in left[1]], [290 if at % 7 < 4 else 280 for at in range(200)])


class Kinds(Exact):
    def test_each_kind(self):
        """Of each note beside each other one: picked, kept together, joined, poured, totalled and left out."""
        for word, kind, notes in all_notes():
            for at, one in enumerate(notes):
                for other in notes[at:]:
                    with self.subTest(kind=word, one=one, other=other):
                        self.each(kind, one, other)

    def each(self, kind, one, other):
        store = {
            "r": table(kind, ("a", "b"), [((2, 1), one), ((2, 2), other), ((3, "x"), one)]), "s": table(kind, ("b",), [((1,), other), (("x",), one)]),
        }
        asked = table(kind, ("a",), [((2,), one), ((2,), other), ((3,), one)])
        self.same(ask(kind, ("keep", R, ("a",)), store), asked)
        asked = table(kind, ("a", "b"), [((2, 1), kind.times(one, other)), ((3, "x"), kind.times(one, one))])
        self.same(ask(kind, ("join", R, S), store), asked)
        asked = table(kind, ("b",), [((1,), kind.plus(other, other)), (("x",), kind.plus(one, one))])
        self.same(ask(kind, ("pour", S, S), store), asked)
        asked = table(kind, (), [((), kind.many(2, one)), ((), kind.many(2, other)), ((), kind.many(3, one))])
        self.same(ask(kind, ("total", R, "a", ()), store), asked)
        asked = table(kind, ("a",), [((2,), one), ((2,), kind.many(2, other))])
        self.same(ask(kind, ("total", R, "b", ("a",)), store), asked)
        left = [((2, 1), kind.times(one, kind.lack(other))), ((2, 2), other), ((3, "x"), kind.times(one, kind.lack(one)))]
        self.same(ask(kind, ("leave", R, S), store), table(kind, ("a", "b"), left))
        self.same(ask(kind, ("pick", R, ("same", of("b"), ("just", 1))), store), table(kind, ("a", "b"), [((2, 1), one)]))

    def test_some_by_hand(self):
        for kind, one, other, joined, kept in [
            (Truth(), True, True, True, True), (Costs(), 3, -5, -2, -5), (Sure(), (1, 2), (2, 3), (1, 3), (2, 3)),
            (Voices(), ("a",), ("b",), ("a", "b"), ("a", "b")), (Least(), (("a",),), (("b",),), (("a", "b"),), (("a",), ("b",))),
            (Wheel(6), 5, 5, 1, 4), (Pair(Costs(), Counts()), (3, 2), (4, 5), (7, 10), (3, 7)),
            (Heaps(Counts()), ((1, 2),), ((3, 5),), ((4, 10),), ((1, 2), (3, 5))),
            (Heaps(Pair(Truth(), Costs())), ((1, (True, 2)),), ((1, (False, 3)),), ((2, (False, 5)),), ((1, (True, 2)),)),
        ]:
            store = {"r": table(kind, ("a",), [((1,), one), (("x",), other)]), "s": table(kind, ("a",), [((1,), other)])}
            self.same(ask(kind, ("join", R, S), store), (("a",), (((1,), joined),)))
            self.same(ask(kind, ("keep", R, ()), store), ((), (((), kept),)))


class Refused(Exact):
    def test_whatever_the_rows_are(self):
        empty = {name: (columns, ()) for name, columns in SHAPES.items()}
        full = {name: (columns, ((tuple(range(len(columns))), 1),)) for name, columns in SHAPES.items()}
        for error, asking in REFUSALS:
            with self.subTest(asking=asking):
                for store in [empty, full]:
                    self.refuses(error, ask, Counts(), asking, store)
                self.refuses(error, ask, Reasons(), asking, empty)

    def test_a_test_that_would_not_be_reached(self):
        test = ("either", TRUE, ("same", of("z"), of("a")))
        self.refuses(REFUSALS[4][0], ask, Counts(), ("pick", R, test), COUNTED)
        self.refuses(REFUSALS[4][0], ask, Counts(), ("join", ("table", "e"), ("pick", R, test)), COUNTED)


if __name__ == "__main__":
    unittest.main()
