"""Points 16 to 19: reasons, what they are worth, and the facts in them."""

import collections
import copy
import itertools
import unittest

from samples import LONGEST, SIXTY, Exact, deep, reasons

from whencewise.errors import NoName
from whencewise.heaps import Heaps
from whencewise.kinds import Costs, Counts, Pair, Sure, Truth, Voices, Wheel
from whencewise.least import Least
from whencewise.reasons import Reasons, fact, facts_in, valued

KIND = Reasons()
A, B, C, D = fact("a"), fact("b"), fact("c"), fact("d")
ONE = (((), (), 1),)
NO_NAMES = [
    "", "A", "0", "0a", "a b", "a_", "a-b", " a", "a ", "a\n", "a" * 41, "+", 0, 1, -1, True, False, None, b"a", [], ["a"], (),
    ("a",), {}, {"a": 1}, {"a"}, object(), 1.5, len, str,
]


def plainly_summed(terms):
    """The reason of some terms, by the words of point 17 alone."""
    times = collections.Counter()
    for facts, bars, many in terms:
        times[(facts, bars)] += many
    return tuple(sorted((facts, bars, many) for (facts, bars), many in times.items()))


def plain_product(a, b):
    return plainly_summed([
        (tuple(sorted(one[0] + other[0])), tuple(sorted(set(one[1]) | set(other[1]))), one[2] * other[2])
        for one in a for other in b
    ])


def lacks(reason, depth):
    for _ in range(depth):
        reason = KIND.lack(reason)
    return reason


class Facts(Exact):
    def test_of_names(self):
        for name in ["a", "z9", "ann", "a" * 40, "x0y1"]:
            self.same(fact(name), (((name,), (), 1),))
            self.assertIs(KIND.holds(fact(name)), True)

    def test_of_no_names(self):
        for thing in NO_NAMES:
            with self.subTest(thing=repr(thing)):
                self.refuses(NoName, fact, thing)
        self.refuses(NoName, fact, 10 ** 5000)


class Sums(Exact):
    def test_nought_and_one(self):
        self.same(KIND.nought(), ())
        self.same(KIND.one(), ONE)

    def test_sums(self):
        for a, b, asked in [
            ((), (), ()), ((), A, A), (ONE, ONE, (((), (), 2),)), (A, ONE, (((), (), 1), (("a",), (), 1))),
            (A, A, ((("a",), (), 2),)), (B, A, ((("a",), (), 1), (("b",), (), 1))),
            (((("a",), (), 3), (("b",), (), 1)), ((("b",), (), 4), (("c",), (), 1)), ((("a",), (), 3), (("b",), (), 5), (("c",), (), 1))),
            (((("a",), (B,), 2),), ((("a",), (), 1),), ((("a",), (), 1), (("a",), (B,), 2))),
            (((("a",), (B,), 2),), ((("a",), (B,), 5),), ((("a",), (B,), 7),)),
            (((("a",), (B,), 2),), ((("a",), (C,), 2),), ((("a",), (B,), 2), (("a",), (C,), 2))),
            (((("a", "a"), (), 1),), A, ((("a",), (), 1), (("a", "a"), (), 1))),
            (((("a",), (), SIXTY),), ((("a",), (), LONGEST),), ((("a",), (), SIXTY + LONGEST),)),
            (((("b",), (), 1),), ((("a", "z"), (), 1),), ((("a", "z"), (), 1), (("b",), (), 1))),
        ]:
            with self.subTest(a=a, b=b):
                self.same(KIND.plus(a, b), asked)
                self.same(KIND.plus(b, a), asked)

    def test_products(self):
        bar = (((), (B,), 1),)
        for a, b, asked in [
            ((), (), ()), ((), A, ()), (ONE, A, A), (ONE, ONE, ONE), (A, A, ((("a", "a"), (), 1),)), (B, A, ((("a", "b"), (), 1),)),
            (((("a", "c"), (), 2),), ((("a", "b"), (), 3),), ((("a", "a", "b", "c"), (), 6),)),
            (bar, bar, bar), (A, bar, ((("a",), (B,), 1),)), ((((), (C,), 1),), bar, (((), (B, C), 1),)),
            (((("a",), (B, D), 2),), ((("b",), (B, C), 5),), ((("a", "b"), (B, C, D), 10),)),
            (((("a",), (), 1), (("b",), (), 1)), ((("a",), (), 1), (("b",), (), 1)), (
                (("a", "a"), (), 1), (("a", "b"), (), 2), (("b", "b"), (), 1))),
            (((("a",), (), 1), (("b",), (), 1)), ((("c",), (), 2), (("d",), (B,), 1)), (
                (("a", "c"), (), 2), (("a", "d"), (B,), 1), (("b", "c"), (), 2), (("b", "d"), (B,), 1))),
            ((((), (), SIXTY),), ((("a",), (), SIXTY),), ((("a",), (), SIXTY * SIXTY),)),
        ]:
            with self.subTest(a=a, b=b):
                self.same(KIND.times(a, b), asked)
                self.same(KIND.times(b, a), asked)

    def test_by_the_words_of_the_point(self):
        some = reasons()
        some += [KIND.plus(a, b) for a, b in itertools.product(some, some)]
        for a, b in itertools.product(some, some[::3]):
            self.same(KIND.plus(a, b), plainly_summed(a + b))
            self.same(KIND.times(a, b), plain_product(a, b))

    def test_lacks(self):
        self.same(KIND.lack(()), ONE)
        self.same(KIND.lack(ONE), (((), (ONE,), 1),))
        self.same(KIND.lack(A), (((), (A,), 1),))
        self.same(KIND.lack(KIND.lack(A)), (((), ((((), (A,), 1),),), 1),))
        self.same(KIND.lack(KIND.lack(())), (((), (ONE,), 1),))
        both = KIND.plus(A, B)
        self.same(KIND.lack(both), (((), (both,), 1),))

    def test_nothing_else_is_made_shorter(self):
        # A fact with its own bar is worth nought everywhere, and yet stays.
        self.same(KIND.times(A, KIND.lack(A)), ((("a",), (A,), 1),))
        self.same(KIND.plus(KIND.lack(A), KIND.lack(KIND.lack(A))), tuple(sorted([((), (A,), 1), ((), (KIND.lack(A),), 1)])))
        self.same(KIND.times(KIND.lack(A), KIND.lack(ONE)), (((), (ONE, A), 1),))
        self.same(KIND.plus(A, KIND.times(A, A)), ((("a",), (), 1), (("a", "a"), (), 1)))

    def test_many(self):
        some = ((("a",), (), 3), (("b",), (C,), 1))
        self.same(KIND.many(0, some), ())
        self.same(KIND.many(1, some), some)
        self.same(KIND.many(2, some), ((("a",), (), 6), (("b",), (C,), 2)))
        self.same(KIND.many(100, some), ((("a",), (), 300), (("b",), (C,), 100)))
        self.same(KIND.many(LONGEST, some), ((("a",), (), 3 * LONGEST), (("b",), (C,), LONGEST)))
        for n in [0, 1, SIXTY]:
            self.same(KIND.many(n, ()), ())
            self.same(KIND.many(n, ONE), (((), (), n),) if n else ())

    def test_twenty_thousand_terms(self):
        one = tuple(sorted([((f"a{at}",), (), 1) for at in range(140)]))
        other = tuple(sorted([((f"b{at}",), (B,), 2) for at in range(140)]))
        told = KIND.times(one, other)
        self.assertEqual(len(told), 19600)
        self.assertIs(KIND.holds(told), True)
        self.assertEqual(KIND.plus(told, told), KIND.many(2, told))
        self.assertEqual(told, KIND.times(other, one))
        self.assertEqual(len(facts_in(told)), 281)
        self.assertEqual(valued(KIND, {name: fact(name) for name in facts_in(told)})(told), told)
        ones = {name: 1 for name in facts_in(told)}
        self.assertEqual(valued(Counts(), ones)(told), 0)
        del ones["b"]
        self.assertEqual(valued(Counts(), ones)(told), 39200)


class Holds(Exact):
    def test_reasons(self):
        bar = KIND.lack(A)
        for thing in reasons() + [
            (((), (bar,), 1),), (((), (ONE,), 1),), (((), (KIND.lack(bar), bar, A), 1),), ((("a", "a", "b"), (), 1),),
            ((("a",), (), 2), (("a",), (A,), 1), (("a",), (A, B), 1), (("a",), (B,), 1), (("a", "a"), (), 7)),
            ((("a",), (), LONGEST),), lacks(A, 15), ((("a10",), (), 1), (("a9",), (), 1)),
        ]:
            with self.subTest(thing=thing):
                self.assertIs(KIND.holds(thing), True)

    def test_lists_in_the_place_of_tuples(self):
        for thing in [
            [], [((), (), 1)], ([(), (), 1],), (([], (), 1),), (((), [], 1),), ((["a"], (), 1),), (((), [A], 1),),
            (((), (list(A),), 1),), (((), (([("a",), (), 1],),), 1),), (((), (((["a"], (), 1),),), 1),),
            (((), (((("a",), [], 1),),), 1),), (((), (A, list(B)), 1),), (((), (KIND.lack(A)[:0] + (list(KIND.lack(A)[0]),),), 1),),
            [[[], [], 1]], ((("a",), (), [1]),), ((("a",), (), (1,)),),
        ]:
            with self.subTest(thing=repr(thing)):
                self.assertIs(KIND.holds(thing), False)

    def test_terms_not_sorted_or_alike(self):
        for thing in [
            ((("b",), (), 1), (("a",), (), 1)), ((("a",), (), 1), ((), (), 1)), ((("a",), (), 1), (("a",), (), 1)),
            ((("a",), (), 1), (("a",), (), 2)), ((("a",), (B,), 1), (("a",), (B,), 3)), ((("a",), (B,), 1), (("a",), (), 1)),
            ((("a",), (C,), 1), (("a",), (B,), 1)), ((("a", "a"), (), 1), (("a",), (), 1)), ((("a9",), (), 1), (("a10",), (), 1)),
            (((), (), 1), ((), (), 1)), (((), (((("b",), (), 1), (("a",), (), 1)),), 1),), (((), (((("a",), (), 1), (("a",), (), 2)),), 1),),
        ]:
            with self.subTest(thing=thing):
                self.assertIs(KIND.holds(thing), False)

    def test_facts_not_sorted_or_no_names(self):
        for facts in [
            ("b", "a"), ("a", "b", "a"), ("",), ("A",), ("a", ""), (1,), (None,), (True,), (("a",),), ("a", 1), (1, "a"),
            ("a", None), "a", "", "ab", None, 0, 1, True, {}, {"a"}, {"a": 1}, ((),), (b"a",), ("a" * 41,), ("a9", "a10"),
        ]:
            with self.subTest(facts=repr(facts)):
                self.assertIs(KIND.holds(((facts, (), 1),)), False)
                self.assertIs(KIND.holds((((), (((facts, (), 1),),), 1),)), False)

    def test_bars_not_sorted_twice_or_nought(self):
        for bars in [
            (B, A), (A, A), (A, B, A), ((),), ((), A), (A, ()), (ONE, ONE), (A, KIND.lack(A)), A, ("a",), ("",), (1,), (None,), (True,),
            "", "a", None, 0, 1, {}, {A}, (((),),), (("a",),), ((((), ((),), 1),),), ((((), (), 0),),), ((((), (B, A), 1),),),
        ]:
            with self.subTest(bars=repr(bars)):
                self.assertIs(KIND.holds((((), bars, 1),)), False)
                self.assertIs(KIND.holds(((("a",), bars, 1),)), False)

    def test_times(self):
        for times in [0, -1, -SIXTY, True, False, None, "1", "", (), (1,), [1], {}, 1.0, object()]:
            with self.subTest(times=repr(times)):
                self.assertIs(KIND.holds(((("a",), (), times),)), False)
                self.assertIs(KIND.holds((((), (((("a",), (), times),),), 1),)), False)

    def test_other_things(self):
        for thing in [
            None, True, False, 0, 1, "", "a", "0", "1", "a + b", b"a", {}, {"a": 1}, {"a"}, object(), Reasons(), Reasons, 1.5,
            ((),), ("a",), (("a",),), (("a",), (), 1), ((("a",), ()),), ((("a",), (), 1, 1),), ((("a",), (), 1), None),
            ((("a",), (), 1), ()), ((("a",), (), 1), 1), (None,), (1,), ((), (), 1), (((), ()),), ("abc",), ("ab1",),
        ]:
            with self.subTest(thing=repr(thing)):
                self.assertIs(KIND.holds(thing), False)

    def test_fifty_deep(self):
        # A lack is three tuples deeper; a fact is three deep.
        self.assertIs(KIND.holds(lacks(A, 15)), True)
        for wrong in [((("b", "a"), (), 1),), ((("a",), (), 0),), ((("a",), [], 1),), [], ((("a",), (), 1), (("a",), (), 2))]:
            self.assertIs(KIND.holds(lacks(wrong, 15)), False)
        for thing in [(), 1, "a", None, []]:
            self.assertIs(KIND.holds(deep(thing, 50)), False)
            self.assertIs(KIND.holds((((), deep(thing, 45), 1),)), False)

    def test_nothing_is_changed(self):
        thing = ((["b", "a"], [[]], 1),)
        before = copy.deepcopy(thing)
        self.assertIs(KIND.holds(thing), False)
        self.same(thing, before)


class Shown(Exact):
    def test_shown(self):
        both = KIND.plus(C, D)
        for reason, asked in [
            ((), "0"), (ONE, "1"), ((((), (), 2),), "2"), (A, "a"), (((("a",), (), 2),), "2*a"), (((("a", "a"), (), 1),), "a*a"),
            (((("a", "a", "b"), (both,), 2),), "2*a*a*b*!(c + d)"), (KIND.lack(A), "!(a)"), (KIND.lack(ONE), "!(1)"),
            (KIND.lack(KIND.lack(A)), "!(!(a))"), (KIND.plus(A, B), "a + b"), (KIND.plus(ONE, A), "1 + a"),
            ((((), (A,), 3),), "3*!(a)"), ((((), (A, B), 1),), "!(a)*!(b)"), (((("c",), (A, B), 4),), "4*c*!(a)*!(b)"),
            (KIND.plus(KIND.lack(both), ((("ann", "bob"), (), 10),)), "!(c + d) + 10*ann*bob"), (((("a",), (), LONGEST),), "9" * 60 + "*a"),
            (KIND.lack(((("a",), (KIND.lack(B),), 2),)), "!(2*a*!(!(b)))"), (((("a",), (), 1), (("a",), (B,), 1)), "a + a*!(b)"),
            (KIND.lack((((), (), 5),)), "!(5)"),
        ]:
            with self.subTest(asked=asked):
                self.same(KIND.shown(reason), asked)

    def test_deep_bars(self):
        self.same(KIND.shown(lacks(A, 100)), "!(" * 100 + "a" + ")" * 100)


class Worth(Exact):
    def test_in_counts(self):
        worth = valued(Counts(), {"a": 2, "b": 3, "c": 0})
        for reason, asked in [
            ((), 0), (ONE, 1), ((((), (), 7),), 7), (A, 2), (C, 0), (D, 0), (((("a", "a"), (), 1),), 4), (((("a", "b"), (), 5),), 30),
            (KIND.plus(A, B), 5), (KIND.lack(A), 0), (KIND.lack(C), 1), (KIND.lack(D), 1), (KIND.lack(KIND.lack(A)), 1),
            (((("a",), (C,), 3), (("b",), (A,), 9)), 6), (((("a",), (C, D), 1),), 2), (((("a",), (), SIXTY),), 2 * SIXTY),
            (KIND.lack(KIND.times(A, C)), 1), (KIND.lack(KIND.plus(A, C)), 0), (KIND.lack(ONE), 0),
        ]:
            with self.subTest(reason=reason):
                self.same(worth(reason), asked)

    def test_in_other_kinds(self):
        some = ((("a", "b"), (), 2), (("c",), (D,), SIXTY))
        for kind, worths, asked in [
            (Truth(), {"a": True, "b": True}, True), (Truth(), {"a": True}, False), (Truth(), {"c": True, "d": False}, True),
            (Truth(), {"c": True, "d": True}, False), (Truth(), {}, False), (Costs(), {"a": 2, "b": 5, "c": 4}, 4),
            (Costs(), {"a": 2, "b": 5, "c": 4, "d": 0}, 7), (Costs(), {"a": None, "b": 5, "c": None}, None), (Costs(), {"a": 1}, None),
            (Sure(), {"a": (1, 2), "b": (2, 3), "c": (1, 4)}, (1, 3)), (Voices(), {"a": ("x",), "b": ("y",), "c": ("z",)}, ("x", "y", "z")),
            (Voices(), {"a": ("x",), "b": (), "d": ()}, ("x",)), (Wheel(2), {"a": 1, "b": 1, "c": 1}, 1), (Wheel(2), {"a": 1, "b": 1}, 0),
            (Least(), {name: ((name,),) for name in "abc"}, (("a", "b"), ("c",))),
            (Pair(Counts(), Truth()), {"a": (2, True), "b": (3, False), "c": (1, True), "d": (0, True)}, (12 + SIXTY, False)),
            (Heaps(Counts()), {"a": ((3, 1),), "b": ((4, 2),), "c": ((-1, 1),)}, ((-1, SIXTY), (7, 4))),
            (Reasons(), {"a": A, "b": B, "c": C, "d": D}, some), (Reasons(), {"a": A, "b": B, "c": C}, ((("a", "b"), (), 2), (("c",), (), SIXTY))),
            (Reasons(), {"a": ONE, "b": KIND.plus(C, D), "d": D}, ((("c",), (), 2), (("d",), (), 2))),
        ]:
            with self.subTest(kind=kind, worths=worths):
                self.same(valued(kind, worths)(some), asked)

    def test_lacks_in_pairs_go_place_by_place(self):
        worth = valued(Pair(Truth(), Counts()), {"a": (True, 0)})
        self.same(worth(KIND.lack(A)), (False, 1))
        self.same(worth(KIND.lack(KIND.lack(A))), (True, 0))

    def test_it_keeps_all(self):
        worths = [
            (Counts(), {"a": 2, "b": 0, "c": 5}), (Truth(), {"a": True, "b": False}), (Costs(), {"a": -2, "b": None, "c": 3}),
            (Sure(), {"a": (1, 2), "c": (2, 3)}), (Voices(), {"a": ("x",), "b": (), "c": None}), (Wheel(6), {"a": 2, "b": 3, "c": 5}),
            (Least(), {"a": (("x",), ("y",)), "b": ((),), "c": ()}), (Heaps(Wheel(4)), {"a": ((1, 2),), "b": ((-1, 1), (0, 2))}),
            (Pair(Counts(), Costs()), {"a": (0, 1), "b": (2, None), "c": (1, 1)}), (Reasons(), {"a": KIND.plus(B, C), "b": ONE, "c": KIND.lack(A)}),
            (Counts(), {}),
        ]
        for kind, told in worths:
            worth = valued(kind, told)
            with self.subTest(kind=kind):
                self.same(worth(()), kind.nought())
                self.same(worth(ONE), kind.one())
                for a in reasons():
                    self.same(worth(KIND.lack(a)), kind.lack(worth(a)))
                    for n in [0, 1, 3, SIXTY]:
                        self.same(worth(KIND.many(n, a)), kind.many(n, worth(a)))
                    for b in reasons():
                        self.same(worth(KIND.plus(a, b)), kind.plus(worth(a), worth(b)))
                        self.same(worth(KIND.times(a, b)), kind.times(worth(a), worth(b)))

    def test_each_fact_worth_its_own_reason(self):
        worth = valued(KIND, {name: fact(name) for name in "abc"})
        for a in reasons():
            self.same(worth(a), a)

    def test_the_dict_is_not_kept(self):
        worths = {"a": 2}
        worth = valued(Counts(), worths)
        worths["a"] = 5
        worths["b"] = 7
        self.same(worth(A), 2)
        self.same(worth(B), 0)
        del worths["a"]
        self.same(worth(A), 2)

    def test_nothing_is_changed(self):
        worths = {"a": 2, "b": 3}
        valued(Counts(), worths)(KIND.plus(A, C))
        self.same(worths, {"a": 2, "b": 3})

    def test_two_at_once(self):
        one, other = valued(Counts(), {"a": 2}), valued(Counts(), {"a": 3})
        self.same([one(A), other(A), one(A)], [2, 3, 2])

    def test_deep_bars(self):
        worth = valued(Truth(), {"a": True})
        self.same([worth(lacks(A, depth)) for depth in [1, 2, 99, 100]], [False, True, False, True])


class FactsIn(Exact):
    def test_facts_in(self):
        for reason, asked in [
            ((), []), (ONE, []), (A, ["a"]), (((("a", "a"), (), 2),), ["a"]), (KIND.plus(B, A), ["a", "b"]), (KIND.lack(A), ["a"]),
            (((("c",), (A,), 1), (("d",), (), 1)), ["a", "c", "d"]), (KIND.lack(KIND.lack(KIND.plus(C, B))), ["b", "c"]),
            (((("b",), (A, B, KIND.lack(KIND.plus(A, D))), 1),), ["a", "b", "d"]), (KIND.lack(ONE), []),
            (KIND.plus(fact("a10"), fact("a9")), ["a10", "a9"]),
        ]:
            with self.subTest(reason=reason):
                self.same(facts_in(reason), asked)

    def test_a_new_list(self):
        told = facts_in(A)
        told.append("b")
        self.same(facts_in(A), ["a"])


if __name__ == "__main__":
    unittest.main()
