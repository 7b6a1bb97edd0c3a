"""Points 34 to 38: the steps by which an asking is settled, and an asking told once."""

import copy
import unittest

from samples import N, R, REFUSALS, S, SHAPES, T, TRUE, U, W, Chance, Exact, of

from whencewise.asking import ask
from whencewise.askings import columns_of
from whencewise.heaps import Heaps
from whencewise.hoards import named, stocked
from whencewise.kinds import Costs, Counts, Pair, Truth, Voices, Wheel
from whencewise.least import Least
from whencewise.plans import once, step, steps
from whencewise.reasons import Reasons

A = ("same", of("a"), ("just", 1))
B = ("under", of("b"), ("just", "x"))
C = ("same", of("c"), ("just", 3))
AB = ("same", of("a"), of("b"))
BC = ("under", of("c"), of("b"))
AC = ("same", of("a"), of("c"))


def pick(asking, *tests):
    for test in tests:
        asking = ("pick", asking, test)
    return asking


class Step(Exact):
    def told(self, asking, asked):
        with self.subTest(asking=asking):
            self.same(step(asking, SHAPES), asked)

    def test_of_the_test(self):
        self.told(pick(R, ("both", A, B)), pick(R, A, B))
        self.told(pick(R, ("not", ("not", A))), pick(R, A))
        self.told(pick(R, ("not", ("either", A, B))), pick(R, ("both", ("not", A), ("not", B))))
        # At the outermost sign first, whatever it is asked of.
        for within in [R, ("keep", W, ("b", "a")), ("pour", R, R), pick(R, A), pick(("keep", W, ("b", "a")), A)]:
            self.told(pick(within, ("both", ("both", A, B), ("not", ("not", A)))), pick(within, ("both", A, B), ("not", ("not", A))))
            self.told(pick(within, ("not", ("not", ("both", A, B)))), pick(within, ("both", A, B)))
            self.told(pick(within, ("not", ("not", ("not", A)))), pick(within, ("not", A)))
            self.told(pick(within, ("not", ("not", ("either", A, B)))), pick(within, ("either", A, B)))
            self.told(pick(within, ("not", ("either", ("not", A), ("both", A, B)))), pick(within, ("both", ("not", ("not", A)), ("not", ("both", A, B)))))

    def test_tests_that_stay(self):
        for test in [A, B, TRUE, ("not", A), ("either", A, B), ("not", ("both", A, B)), ("either", ("both", A, B), ("not", ("not", A))), ("not", ("same", of("b"), of("a")))]:
            self.told(pick(R, test), None)
            self.told(pick(("keep", R, ("b", "a")), test), ("keep", pick(R, test), ("b", "a")))

    def test_no_pick(self):
        for asking in [R, ("keep", R, ("a",)), ("call", R, ("x", "y")), ("join", R, S), ("pour", R, R), ("total", R, "a", ()), ("leave", R, N)]:
            self.told(asking, None)

    def test_into_a_table(self):
        self.told(pick(R, A), None)
        self.told(pick(N, TRUE), None)

    def test_into_keep_and_total(self):
        self.told(pick(("keep", W, ("b", "a")), A), ("keep", pick(W, A), ("b", "a")))
        self.told(pick(("keep", W, ()), TRUE), ("keep", pick(W, TRUE), ()))
        self.told(pick(("total", W, "c", ("b", "a")), A), ("total", pick(W, A), "c", ("b", "a")))
        self.told(pick(("total", W, "a", ("a",)), A), ("total", pick(W, A), "a", ("a",)))
        self.told(pick(("total", W, "a", ()), TRUE), ("total", pick(W, TRUE), "a", ()))

    def test_into_call(self):
        self.told(pick(("call", S, ("p", "q")), ("same", of("p"), of("q"))), ("call", pick(S, ("same", of("b"), of("c"))), ("p", "q")))
        # Columns turned about.
        self.told(pick(("call", R, ("b", "a")), A), ("call", pick(R, ("same", of("b"), ("just", 1))), ("b", "a")))
        self.told(pick(("call", R, ("b", "a")), AB), ("call", pick(R, ("same", of("b"), of("a"))), ("b", "a")))
        self.told(pick(("call", W, ("b", "c", "a")), ("either", AC, ("not", B))), (
            "call", pick(W, ("either", ("same", of("c"), of("b")), ("not", ("under", of("a"), ("just", "x"))))), ("b", "c", "a"),
        ))
        self.told(pick(("call", N, ()), TRUE), ("call", pick(N, TRUE), ()))
        joined = ("join", U, ("call", S, ("c", "d")))
        self.told(pick(("call", joined, ("c", "p", "a", "q")), AC), ("call", pick(joined, ("same", of("c"), of("b"))), ("c", "p", "a", "q")))

    def test_into_pour_and_leave(self):
        other = ("keep", W, ("a", "b"))
        self.told(pick(("pour", R, other), A), ("pour", pick(R, A), pick(other, A)))
        self.told(pick(("pour", R, R), AB), ("pour", pick(R, AB), pick(R, AB)))
        self.told(pick(("leave", W, R), A), ("leave", pick(W, A), R))
        self.told(pick(("leave", W, R), C), ("leave", pick(W, C), R))
        self.told(pick(("leave", R, U), A), ("leave", pick(R, A), U))

    def test_into_join(self):
        both = ("join", R, S)
        self.told(pick(both, A), ("join", pick(R, A), S))
        self.told(pick(both, AB), ("join", pick(R, AB), S))
        # A column of both goes into ONE.
        self.told(pick(both, B), ("join", pick(R, B), S))
        self.told(pick(both, C), ("join", R, pick(S, C)))
        self.told(pick(both, BC), ("join", R, pick(S, BC)))
        self.told(pick(both, AC), None)
        self.told(pick(both, ("either", A, C)), None)
        self.told(pick(both, ("not", ("both", A, C))), None)
        # No column at all.
        self.told(pick(both, TRUE), ("join", pick(R, TRUE), S))
        self.told(pick(("join", N, R), TRUE), ("join", pick(N, TRUE), R))
        self.told(pick(("join", N, R), AB), ("join", N, pick(R, AB)))
        self.told(pick(("join", R, R), AB), ("join", pick(R, AB), R))
        self.told(pick(("join", R, T), ("same", of("a"), of("d"))), None)

    def test_through_picks(self):
        self.told(pick(R, A, B), None)
        self.told(pick(R, A, B, AB), None)
        joined, kept = ("join", R, S), ("keep", W, ("b", "a"))
        self.told(pick(joined, AC, A), pick(("join", pick(R, A), S), AC))
        self.told(pick(joined, AC, ("not", AC), C), pick(("join", R, pick(S, C)), AC, ("not", AC)))
        self.told(pick(joined, AC, ("not", AC), ("either", AC, TRUE)), None)
        # The outer one first, past the inner one.
        self.told(pick(kept, A, B), pick(("keep", pick(W, B), ("b", "a")), A))
        self.told(pick(kept, A, ("both", A, B)), pick(kept, A, A, B))
        self.told(pick(R, ("both", A, B), AB), pick(R, A, B, AB))
        self.told(pick(joined, ("both", A, B), AC), pick(joined, A, B, AC))

    def test_which_pick_goes_first(self):
        one, other = pick(("keep", W, ("b",)), B), pick(("pour", S, S), B)
        one_behind, other_behind = ("keep", pick(W, B), ("b",)), ("pour", pick(S, B), pick(S, B))
        settled = pick(R, A)
        self.told(("leave", other, one), ("leave", other_behind, one))
        self.told(("join", other, one), ("join", other_behind, one))
        self.told(("join", one, other), ("join", one_behind, other))
        self.told(("join", other, settled), ("join", other_behind, settled))
        self.told(("join", settled, other), ("join", settled, other_behind))
        self.told(("leave", ("join", settled, S), one), ("leave", ("join", settled, S), one_behind))
        self.told(("pour", one, one), ("pour", one_behind, one))
        self.told(("pour", pick(("keep", R, ("b",)), B), one), ("pour", ("keep", pick(R, B), ("b",)), one))
        self.told(("pour", ("keep", settled, ("b",)), one), ("pour", ("keep", settled, ("b",)), one_behind))
        for about, behind in [
            (("keep", one, ()), ("keep", one_behind, ())), (("call", one, ("q",)), ("call", one_behind, ("q",))),
            (("total", one, "b", ("b",)), ("total", one_behind, "b", ("b",))),
            (pick(("join", R, other), AC), pick(("join", R, other_behind), AC)),
            (("keep", ("keep", ("join", ("keep", one, ("b",)), other), ("b",)), ()), ("keep", ("keep", ("join", ("keep", one_behind, ("b",)), other), ("b",)), ())),
        ]:
            self.told(about, behind)
        # The asking itself ahead of what is within, all of ONE, however deep, ahead of OTHER.
        self.told(pick(("keep", one, ("b",)), B), ("keep", pick(one, B), ("b",)))
        deep = ("keep", ("join", settled, ("keep", one, ("b",))), ("b",))
        self.told(("join", deep, other), ("join", ("keep", ("join", settled, ("keep", one_behind, ("b",))), ("b",)), other))

    def test_refused(self):
        for error, asking in REFUSALS:
            self.refuses(error, step, asking, SHAPES)
            self.refuses(error, steps, asking, SHAPES)
            # Also where a step goes ahead of it.
            self.refuses(error, step, ("join", pick(("keep", W, ("b", "a")), A), asking), SHAPES)
            self.refuses(error, steps, ("join", pick(("keep", W, ("b", "a")), A), asking), SHAPES)

    def test_nothing_is_changed(self):
        shapes = copy.deepcopy(SHAPES)
        steps(pick(("call", R, ("b", "a")), A), shapes).clear()
        step(pick(("call", R, ("b", "a")), A), shapes)
        self.same(shapes, SHAPES)


class Steps(Exact):
    def told(self, *asked):
        self.same(steps(asked[0], SHAPES), list(asked))

    def test_settled_ones(self):
        self.told(R)
        self.told(pick(R, A))
        self.told(pick(("join", R, S), AC))

    def test_one_behind_the_other(self):
        kept = ("keep", W, ("b", "a"))
        self.told(
            pick(kept, ("both", A, B)), pick(kept, A, B), pick(("keep", pick(W, B), ("b", "a")), A), ("keep", pick(W, B, A), ("b", "a")),
        )
        joined = ("join", R, S)
        test = ("not", ("either", ("not", A), ("not", ("both", C, AC))))
        self.told(
            pick(joined, test), pick(joined, ("both", ("not", ("not", A)), ("not", ("not", ("both", C, AC))))),
            pick(joined, ("not", ("not", A)), ("not", ("not", ("both", C, AC)))), pick(joined, ("not", ("not", A)), ("both", C, AC)),
            pick(joined, ("not", ("not", A)), C, AC), pick(("join", R, pick(S, C)), ("not", ("not", A)), AC),
            pick(("join", R, pick(S, C)), A, AC), pick(("join", pick(R, A), pick(S, C)), AC),
        )
        poured = ("pour", ("call", R, ("b", "a")), U)
        turned = ("same", of("a"), ("just", 1))
        self.told(
            pick(poured, ("same", of("b"), ("just", 1))), ("pour", pick(("call", R, ("b", "a")), ("same", of("b"), ("just", 1))), pick(U, ("same", of("b"), ("just", 1)))),
            ("pour", ("call", pick(R, turned), ("b", "a")), pick(U, ("same", of("b"), ("just", 1)))),
        )

    def test_each_is_a_step_behind_the_one_ahead(self):
        lengths = []
        for seed in range(300):
            chance = Chance(seed)
            asking = chance.asking(3)
            columns = columns_of(asking, chance.shapes)
            asking = ("pick", asking, chance.test(columns, 4))
            told = steps(asking, chance.shapes)
            self.assertIs(type(told), list)
            self.same(told[0], asking)
            self.same([step(one, chance.shapes) for one in told], told[1:] + [None])
            lengths.append(len(told))
        self.assertGreater(max(lengths), 8)

    def test_the_same_columns_and_answers(self):
        for seed in range(200):
            chance = Chance(seed)
            hoard, asking = chance.hoard(), chance.asking(3)
            columns = columns_of(asking, chance.shapes)
            asking = ("pick", asking, chance.test(columns, 3))
            told = steps(asking, chance.shapes)
            stores = [
                (Reasons(), named(hoard)), (Counts(), stocked(Counts(), hoard, {"e": 1, "f": 2, "g": 3})),
                (Wheel(6), stocked(Wheel(6), hoard, {"e": 2, "f": 3, "g": 5, "h": 4})),
                (Pair(Costs(), Truth()), stocked(Pair(Costs(), Truth()), hoard, {"e": (1, False), "f": (None, True), "g": (2, True)})),
                (Heaps(Counts()), stocked(Heaps(Counts()), hoard, {"e": ((1, 2),), "f": ((0, 1), (3, 1))})),
            ]
            answers = [ask(kind, asking, store) for kind, store in stores]
            for one in told[1:]:
                with self.subTest(seed=seed, one=one):
                    self.same(columns_of(one, chance.shapes), columns)
                    self.same([ask(kind, one, store) for kind, store in stores], answers)

    def test_forty_sames_and_sixteen_tables(self):
        tests = [("same", of("a"), ("just", at)) for at in range(40)]
        asking = R
        for at in range(15):
            asking = ("pour", asking, R)
        while len(tests) > 1:
            tests = [("both", *tests[at:at + 2]) for at in range(0, len(tests) - 1, 2)] + (tests[-1:] if len(tests) % 2 else [])
        told = steps(pick(asking, tests[0]), SHAPES)
        self.assertEqual(len(told), 1 + 39 + 40 * 15)
        last = told[-1]
        for at in range(15):
            self.assertEqual(last[0], "pour")
            last = last[1]
        self.assertEqual(str(last).count("'pick'"), 40)
        self.same(step(told[-1], SHAPES), None)
        self.same(columns_of(told[-1], SHAPES), ("a", "b"))


class Once(Exact):
    def told(self, asking, asked):
        with self.subTest(asking=asking):
            self.same(once(asking), asked)

    def test_twice_the_same(self):
        self.told(("pour", R, R), R)
        self.told(("pour", pick(R, A), pick(R, A)), pick(R, A))
        self.told(("pour", R, S), ("pour", R, S))
        self.told(("pour", pick(R, A), pick(R, B)), ("pour", pick(R, A), pick(R, B)))
        self.told(("pour", pick(R, A), pick(R, ("same", of("a"), ("just", "1")))), ("pour", pick(R, A), pick(R, ("same", of("a"), ("just", "1")))))

    def test_other_askings_stay(self):
        for asking in [
            R, pick(R, A), ("keep", R, ("a",)), ("keep", R, ()), ("call", R, ("x", "y")), ("join", R, R), ("total", R, "a", ("b",)), ("leave", R, R),
            ("join", ("leave", R, R), ("keep", R, ("a",))),
        ]:
            self.told(asking, asking)

    def test_within(self):
        twice = ("pour", R, R)
        for about, asked in [
            (pick(twice, A), pick(R, A)), (("keep", twice, ("a",)), ("keep", R, ("a",))), (("call", twice, ("x", "y")), ("call", R, ("x", "y"))),
            (("join", twice, S), ("join", R, S)), (("join", S, twice), ("join", S, R)), (("total", twice, "a", ()), ("total", R, "a", ())),
            (("leave", twice, twice), ("leave", R, R)), (("pour", S, twice), ("pour", S, R)), (("pour", twice, S), ("pour", R, S)),
        ]:
            self.told(about, asked)

    def test_such_as_come_to_be_so(self):
        twice = ("pour", R, R)
        self.told(("pour", twice, R), R)
        self.told(("pour", R, twice), R)
        self.told(("pour", twice, twice), R)
        self.told(("pour", ("pour", twice, R), ("pour", R, twice)), R)
        self.told(("pour", ("keep", twice, ("a",)), ("keep", R, ("a",))), ("keep", R, ("a",)))
        self.told(("pour", ("pour", R, U), ("pour", R, U)), ("pour", R, U))
        self.told(("pour", ("pour", R, U), ("pour", U, R)), ("pour", ("pour", R, U), ("pour", U, R)))
        self.told(("pour", ("pour", R, U), U), ("pour", ("pour", R, U), U))

    def test_not_looked_at_further(self):
        """It isn't refused, and tables need not be there."""
        none = ("table", "none")
        self.told(("pour", none, none), none)
        self.told(("keep", ("pour", none, none), ("z", "z")), ("keep", none, ("z", "z")))

    def test_the_same_answer_in_single_kinds(self):
        seen = 0
        for seed in range(200):
            chance = Chance(seed)
            hoard, asking = chance.hoard(), chance.asking(3)
            asking = [("pour", asking, asking), asking, ("keep", ("pour", asking, asking), ())][seed % 3]
            told = once(asking)
            seen += told != asking
            for kind, worths in [
                (Truth(), {"e": True, "f": True}), (Costs(), {"e": 3, "f": -1, "g": 0}), (Voices(), {"e": ("p",), "f": (), "h": ("q",)}),
                (Least(), {name: ((name,),) for name in "efgh"}),
            ]:
                store = stocked(kind, hoard, worths)
                self.same(ask(kind, told, store), ask(kind, asking, store))
        self.assertGreater(seen, 100)


if __name__ == "__main__":
    unittest.main()
