"""Points 28 to 30: hoards stocked and named, facts taken out, what is left and which rows fall."""

import copy
import unittest

from samples import NO_NOTES, R, REFUSALS, S, SHAPES, Chance, Exact, all_notes

from whencewise.asking import ask
from whencewise.errors import Misfit, NoName, NoNote, Twice
from whencewise.hoards import fallen, facts_of, left_of, named, shapes_of, stocked, without
from whencewise.kinds import Costs, Counts, Truth, Wheel
from whencewise.least import Least
from whencewise.reasons import Reasons, fact, valued
from whencewise.tables import table, turned

E, F, G = fact("e"), fact("f"), fact("g")
HOARD = {
    "s": (("b", "c"), ((("x", 2), "g"), (("x", 1), "e"), (("x", 2), "f"))),
    "r": (("a", "b"), (((2, "x"), "f"), ((1, "x"), "e"), ((2, "x"), "e"), ((2, "x"), "f"), (("k", 0), "h"))),
    "n": ((), (((), "e"), ((), "zz"))),
    "m": (("a",), ()),
}


class Stocked(Exact):
    def told(self, kind, worths, asked):
        told = stocked(kind, HOARD, worths)
        self.same(told, asked)

    def test_several_facts_and_several_rows(self):
        self.told(Counts(), {"e": 1, "f": 10, "g": 100, "h": 1000, "zz": 5}, {
            "s": (("b", "c"), ((("x", 1), 1), (("x", 2), 110))), "r": (("a", "b"), (((1, "x"), 1), ((2, "x"), 21), (("k", 0), 1000))),
            "n": ((), (((), 6),)), "m": (("a",), ()),
        })
        self.told(Costs(), {"e": 3, "f": -1, "g": 0, "h": 1, "zz": 3}, {
            "s": (("b", "c"), ((("x", 1), 3), (("x", 2), -1))), "r": (("a", "b"), (((1, "x"), 3), ((2, "x"), -1), (("k", 0), 1))),
            "n": ((), (((), 3),)), "m": (("a",), ()),
        })

    def test_no_worth_is_nought(self):
        self.told(Counts(), {"f": 10}, {
            "s": (("b", "c"), ((("x", 2), 10),)), "r": (("a", "b"), (((2, "x"), 20),)), "n": ((), ()), "m": (("a",), ()),
        })
        self.told(Truth(), {}, {"s": (("b", "c"), ()), "r": (("a", "b"), ()), "n": ((), ()), "m": (("a",), ())})
        self.told(Costs(), {"zz": None, "h": 0}, {
            "s": (("b", "c"), ()), "r": (("a", "b"), ((("k", 0), 0),)), "n": ((), ()), "m": (("a",), ()),
        })

    def test_what_comes_to_nought(self):
        self.told(Wheel(2), {"f": 1, "g": 1, "zz": 1}, {"s": (("b", "c"), ()), "r": (("a", "b"), ()), "n": ((), (((), 1),)), "m": (("a",), ())})

    def test_worths_of_what_is_no_fact(self):
        for thing in NO_NOTES + [-1, True, None]:
            self.told(Counts(), {"other": thing, "zz": 4, "A": thing}, {"s": (("b", "c"), ()), "r": (("a", "b"), ()), "n": ((), (((), 4),)), "m": (("a",), ())})

    def test_each_kind(self):
        for word, kind, notes in all_notes():
            for one, other in zip(notes, notes[1:]):
                hoard = {"r": (("a",), (((2,), "e"), ((1,), "f"), ((1,), "g"), ((1,), "e")))}
                asked = table(kind, ("a",), [((2,), one), ((1,), one), ((1,), other)])
                self.same(stocked(kind, hoard, {"e": one, "f": other}), {"r": asked})

    def test_the_order_of_the_dict(self):
        for hoard in [HOARD, dict(reversed(list(HOARD.items())))]:
            self.assertEqual(list(stocked(Counts(), hoard, {})), list(hoard))
            self.assertEqual(list(named(hoard)), list(hoard))
            self.assertEqual(list(without(hoard, ["e"])), list(hoard))
            self.assertEqual(list(shapes_of(hoard)), list(hoard))

    def test_nothing_is_changed(self):
        hoard, worths = copy.deepcopy(HOARD), {"e": 1, "q": 4}
        told = stocked(Counts(), hoard, worths)
        told.clear()
        named(hoard).clear()
        self.same((hoard, worths), (HOARD, {"e": 1, "q": 4}))
        self.assertNotEqual(stocked(Counts(), hoard, worths), {})


class Named(Exact):
    def test_each_its_own_reason(self):
        self.same(named(HOARD), {
            "s": (("b", "c"), ((("x", 1), E), (("x", 2), ((("f",), (), 1), (("g",), (), 1))))),
            "r": (("a", "b"), (((1, "x"), E), ((2, "x"), ((("e",), (), 1), (("f",), (), 2))), (("k", 0), fact("h")))),
            "n": ((), (((), ((("e",), (), 1), (("zz",), (), 1))),)), "m": (("a",), ()),
        })
        self.same(named({}), {})
        self.same(named({"m": ((), ())}), {"m": ((), ())})


class Refused(Exact):
    def no(self, error, hoard, worths):
        with self.subTest(hoard=hoard, worths=worths):
            self.refuses(error, stocked, Counts(), hoard, worths)

    def both(self, error, hoard):
        self.no(error, hoard, {"e": 1})
        self.refuses(error, named, hoard)

    def test_columns(self):
        self.both(NoName, {"r": (("A",), ())})
        self.both(NoName, {"r": (("a", 1), (((1, 2), "e"),))})
        self.both(NoName, {"r": (("a", None, "a"), ())})
        self.both(Twice, {"r": (("a", "b", "a"), ())})
        self.both(Twice, {"r": (("a", "a", ""), ())})
        self.both(NoName, {"r": (("a", "", "a"), (((1,), "e"),))})

    def test_rows(self):
        self.both(Misfit, {"r": (("a",), (((1, 2), "e"),))})
        self.both(Misfit, {"r": (("a",), (((1,), "e"), ((), "e")))})
        self.both(Misfit, {"r": ((), (((1,), "e"),))})
        # A fact that has no worth told, too.
        self.both(Misfit, {"r": (("a",), (((1, 2), "f"),))})
        self.both(Twice, {"r": (("a", "a"), (((1,), "e"),))})

    def test_notes(self):
        hoard = {"r": (("a",), (((1,), "e"),))}
        for thing in NO_NOTES + [-1, True, False, None]:
            self.no(NoNote, hoard, {"e": thing})
        self.refuses(NoNote, stocked, Truth(), hoard, {"e": 1})
        self.refuses(NoNote, stocked, Reasons(), hoard, {"e": "e"})
        self.refuses(NoNote, stocked, Wheel(5), hoard, {"e": 5})

    def test_which_goes_first(self):
        self.no(Misfit, {"r": (("a",), (((1, 2), "e"),))}, {"e": -1})
        self.no(NoNote, {"r": (("a",), (((1,), "e"), ((1, 2), "f")))}, {"e": -1, "f": 1})
        self.no(Misfit, {"r": (("a",), (((1, 2), "f"), ((1,), "e")))}, {"e": -1, "f": 1})
        self.no(NoName, {"r": (("", "a"), (((1,), "e"),))}, {"e": -1})

    def test_table_by_table(self):
        bad = [
            (NoName, (("A",), ())), (Twice, (("a", "a"), ())), (Misfit, (("a",), (((), "f"),))), (NoNote, (("a",), (((1,), "e"),))),
        ]
        for error, one in bad:
            for worse, other in bad:
                self.no(error, {"s": (("a",), (((1,), "f"),)), "z": one, "a": other}, {"e": -1, "f": 1})
        for error, one in bad[:3]:
            for worse, other in bad[:3]:
                self.refuses(error, named, {"z": one, "a": other})


class Facts(Exact):
    def test_without(self):
        self.same(without(HOARD, ["e"]), {
            "s": (("b", "c"), ((("x", 2), "g"), (("x", 2), "f"))), "r": (("a", "b"), (((2, "x"), "f"), ((2, "x"), "f"), (("k", 0), "h"))),
            "n": ((), (((), "zz"),)), "m": (("a",), ()),
        })
        self.same(without(HOARD, ["h", "zz", "h", "g"]), {
            "s": (("b", "c"), ((("x", 1), "e"), (("x", 2), "f"))), "r": HOARD["r"][:1] + (HOARD["r"][1][:4],), "n": ((), (((), "e"),)), "m": (("a",), ()),
        })
        self.same(without(HOARD, ["e", "f", "g", "h", "zz"]), {name: (columns, ()) for name, (columns, facts) in HOARD.items()})

    def test_names_that_are_no_facts(self):
        for names in [[], ["q"], ["z", "ee", "r", "a", "x"]]:
            self.same(without(HOARD, names), HOARD)

    def test_facts_of(self):
        self.same(facts_of(HOARD), ["e", "f", "g", "h", "zz"])
        self.same(facts_of({"m": (("a",), ())}), [])
        self.same(facts_of({}), [])
        self.same(facts_of({"r": ((), (((), "b"), ((), "a10"), ((), "a9"), ((), "b")))}), ["a10", "a9", "b"])
        self.same(facts_of(without(HOARD, ["f", "q"])), ["e", "g", "h", "zz"])

    def test_shapes_of(self):
        self.same(shapes_of(HOARD), {"s": ("b", "c"), "r": ("a", "b"), "n": (), "m": ("a",)})
        self.same(shapes_of({}), {})
        hoard = {name: (columns, ()) for name, columns in SHAPES.items()}
        for error, asking in REFUSALS:
            self.refuses(error, ask, Reasons(), asking, named(hoard))

    def test_the_hoard_stays(self):
        hoard, names = copy.deepcopy(HOARD), ["e", "q"]
        less = without(hoard, names)
        less["s"] = None
        without(hoard, []).clear()
        facts_of(hoard).clear()
        shapes_of(hoard).clear()
        self.same((hoard, names), (HOARD, ["e", "q"]))


def because(*pairs):
    return table(Reasons(), ("a",), list(pairs))


class Left(Exact):
    def told(self, some, names, left, rows):
        with self.subTest(names=names):
            self.same(left_of(some, names), left)
            self.same(fallen(some, names), rows)

    def test_facts_taken_out(self):
        both = ((("e",), (), 1), (("f", "g"), (), 3))
        some = because(((3,), E), ((1,), both), (("x",), F))
        self.told(some, ["e"], because(((1,), both[1:]), (("x",), F)), [(3,)])
        self.told(some, ["f"], because(((1,), E), ((3,), E)), [("x",)])
        self.told(some, ["g"], because(((1,), E), ((3,), E), (("x",), F)), [])
        self.told(some, ["g", "e"], because((("x",), F)), [(1,), (3,)])
        self.told(some, ["e", "f", "e"], because(), [(1,), (3,), ("x",)])

    def test_names_that_stand_nowhere(self):
        some = because(((3,), E), ((1,), ((("e",), (F,), 2),)))
        for names in [[], ["q"], ["ee", "q", "zz"]]:
            self.told(some, names, some, [])
        self.told(because(), ["e"], because(), [])

    def test_bars(self):
        barred = ((("e",), (F,), 2),)
        self.told(because(((1,), barred)), ["f"], because(((1,), ((("e",), (), 2),))), [])
        self.told(because(((1,), barred)), ["e"], because(), [(1,)])
        two = ((("e",), (((("f",), (), 1), (("g", "h"), (), 1)),), 1),)
        self.told(because(((1,), two)), ["h"], because(((1,), ((("e",), (F,), 1),))), [])
        self.told(because(((1,), two)), ["f"], because(((1,), ((("e",), (((("g", "h"), (), 1),),), 1),))), [])
        self.told(because(((1,), two)), ["f", "g"], because(((1,), E)), [])

    def test_bars_within_bars(self):
        # e unless (f unless g): without g it hangs on f being away, without f on e alone.
        inner = ((("f",), (G,), 1),)
        some = because(((1,), ((("e",), (inner,), 1),)))
        self.told(some, ["g"], because(((1,), ((("e",), (F,), 1),))), [])
        self.told(some, ["f"], because(((1,), E)), [])
        # A bar that comes to one is no shorter than that: it stays a bar, and so does its row.
        sure = (((), (F,), 1),)
        one = (((), (), 1),)
        self.told(because(((1,), (((), (sure,), 1),))), ["f"], because(((1,), (((), (one,), 1),))), [])

    def test_alike_when_taken_out(self):
        both = ((("e",), (F,), 2), (("e",), (G,), 3))
        self.told(because(((1,), both)), ["f", "g"], because(((1,), ((("e",), (), 5),))), [])
        wide = ((("f",), (), 1), (("g",), (), 1))
        self.told(because(((1,), ((("e",), (wide, G), 1),))), ["f"], because(((1,), ((("e",), (G,), 1),))), [])
        turned_about = ((("e",), (((("e",), (), 1),), ((("f",), (), 1),)), 1), (("e",), (((("f",), (), 1), (("g",), (), 1)),), 1))
        self.assertTrue(Reasons().holds(turned_about))
        self.told(because(((1,), turned_about)), ["f"], because(((1,), ((("e",), (E,), 1), (("e",), (G,), 1)))), [])

    def test_the_table_stays(self):
        some, names = because(((1,), E), ((2,), F)), ["e"]
        before = copy.deepcopy(some)
        left_of(some, names)
        fallen(some, names).clear()
        self.same((some, names), (before, ["e"]))

    def test_many_terms(self):
        hoard = {"r": (("a",), tuple(((at,), f"f{at}") for at in range(140))), "s": (("b",), tuple(((at,), f"g{at}") for at in range(140)))}
        some = ask(Reasons(), ("leave", ("table", "r"), ("keep", ("join", R, S), ())), named(hoard))
        self.assertEqual(len(some[1][0][1][0][1][0]), 140 * 140)
        left = left_of((some[0], some[1][:2]), ["g0", "f0", "q"])
        self.assertEqual(len(left[1][0][1][0][1][0]), 139 * 139)
        self.assertEqual(fallen((some[0], some[1][:2]), ["g0", "f0", "q"]), [(0,)])


class OverHoards(Exact):
    def test_left_is_the_answer_without_them(self):
        for seed in range(150):
            chance = Chance(seed)
            hoard, asking = chance.hoard(), chance.asking(3)
            some = ask(Reasons(), asking, named(hoard))
            for names in [["e"], ["f", "g"], ["e", "h", "q"], ["e", "f", "g", "h"], ["q"], []]:
                with self.subTest(seed=seed, names=names):
                    left = ask(Reasons(), asking, named(without(hoard, names)))
                    self.same(left_of(some, names), left)
                    rows = [row for row, note in left[1]]
                    self.same(fallen(some, names), [row for row, note in some[1] if row not in rows])

    def test_in_other_kinds(self):
        for seed in range(60):
            chance = Chance(seed)
            hoard, asking = chance.hoard(), chance.asking(3)
            some = ask(Reasons(), asking, named(hoard))
            for kind, worths in [(Counts(), {"e": 1, "f": 1, "g": 1, "h": 1}), (Least(), {name: ((name,),) for name in "efgh"})]:
                for gone in "efgh":
                    told = ask(kind, asking, stocked(kind, without(hoard, [gone]), worths))
                    self.same(turned(left_of(some, [gone]), kind, valued(kind, worths)), told)


if __name__ == "__main__":
    unittest.main()
