"""Points 10 and 15: Least, and the cuts of its notes."""

import copy
import itertools
import random
import unittest

from samples import SIXTY, Exact

from whencewise.least import Least, cuts

TWELVE = list("abcdefghijkl")
NAME = "a" * 40


def plainly_least(sets):
    """The least of some sets, by the words of point 10 alone."""
    every = {frozenset(some) for some in sets}
    least = [some for some in every if not any(other < some for other in every)]
    return tuple(sorted(tuple(sorted(some)) for some in least))


def plain_cuts(note, names):
    """The cuts of a note, by the words of point 15 alone."""
    def meets(some):
        return all(set(some) & set(one) for one in note)

    found = []
    for many in range(len(names) + 1):
        for some in itertools.combinations(names, many):
            if meets(some) and not any(meets([one for one in some if one != name]) for name in some):
                found.append(some)
    return tuple(sorted(found))


def chance_notes(seed, names, many):
    chance = random.Random(seed)
    notes = []
    for _ in range(many):
        sets = [chance.sample(names, chance.randint(0 if chance.random() < 0.05 else 1, len(names) - 1))
                for _ in range(chance.randint(0, 8))]
        notes.append(plainly_least(sets))
    return notes


class Notes(Exact):
    kind = Least()

    def test_nought_and_one(self):
        self.same(self.kind.nought(), ())
        self.same(self.kind.one(), ((),))

    def test_sums(self):
        for a, b, asked in [
            ((), (), ()), ((), ((),), ((),)), (((),), ((),), ((),)), ((), (("a",),), (("a",),)), (((),), (("a",),), ((),)),
            ((("a",),), (("b",),), (("a",), ("b",))), ((("b",),), (("a",),), (("a",), ("b",))),
            ((("a",),), (("a", "b"),), (("a",),)), ((("a", "b"),), (("b", "c"),), (("a", "b"), ("b", "c"))),
            ((("a", "b"), ("c",)), (("a",), ("b", "c")), (("a",), ("c",))),
            ((("a", "b"), ("a", "c")), (("b", "c"),), (("a", "b"), ("a", "c"), ("b", "c"))),
            ((("b",),), (("a", "c"),), (("a", "c"), ("b",))), ((("a10",),), (("a9",),), (("a10",), ("a9",))),
            ((("a",),), (("a",),), (("a",),)), ((("ab",),), (("a", "b"),), (("a", "b"), ("ab",))),
        ]:
            with self.subTest(a=a, b=b):
                self.same(self.kind.plus(a, b), asked)
                self.same(self.kind.plus(b, a), asked)

    def test_products(self):
        for a, b, asked in [
            ((), (), ()), ((), ((),), ()), (((),), ((),), ((),)), ((), (("a",),), ()), (((),), (("a",),), (("a",),)),
            ((("a",),), (("b",),), (("a", "b"),)), ((("a",),), (("a",),), (("a",),)),
            ((("a",), ("b",)), (("a",), ("b",)), (("a",), ("b",))), ((("a",), ("b",)), (("a",), ("c",)), (("a",), ("b", "c"))),
            ((("a",), ("b",)), (("c",), ("d",)), (("a", "c"), ("a", "d"), ("b", "c"), ("b", "d"))),
            ((("a", "b"), ("c",)), (("a",), ("c", "d")), (("a", "b"), ("a", "c"), ("c", "d"))),
            ((("c",),), (("a", "b"), ("d",)), (("a", "b", "c"), ("c", "d"))), (((NAME,),), (("a",),), (("a", NAME),)),
        ]:
            with self.subTest(a=a, b=b):
                self.same(self.kind.times(a, b), asked)
                self.same(self.kind.times(b, a), asked)

    def test_by_the_words_of_the_point(self):
        notes = chance_notes(3, list("abcdef"), 60)
        for a, b in itertools.product(notes, notes):
            self.same(self.kind.plus(a, b), plainly_least(a + b))
            self.same(self.kind.times(a, b), plainly_least([one + other for one in a for other in b]))

    def test_lacks(self):
        for a, asked in [((), ((),)), (((),), ()), ((("a",),), ()), ((("a", "b"), ("c",)), ())]:
            self.same(self.kind.lack(a), asked)

    def test_many(self):
        for a in [(), ((),), (("a",),), (("a", "b"), ("c",))]:
            self.same(self.kind.many(0, a), ())
            for n in [1, 2, 100, SIXTY]:
                self.same(self.kind.many(n, a), a)

    def test_holds(self):
        for thing in [
            (), ((),), (("a",),), (("a", "b"),), (("a",), ("b",)), (("a", "b"), ("a", "c"), ("b", "c")), (("a", "c"), ("b",)),
            ((NAME,),), (("a10",), ("a9",)), (("a",), ("ab",)),
        ]:
            with self.subTest(thing=thing):
                self.assertIs(self.kind.holds(thing), True)

    def test_does_not_hold(self):
        for thing in [
            (("b",), ("a",)), (("b", "a"),), (("a",), ("a",)), (("a", "a"),), ((), ()), ((), ("a",)), (("a",), ()),
            (("a",), ("a", "b")), (("a", "b"), ("b",)), (("a", "b", "c"), ("a", "c")), (("a", "b"), ("a", "b")),
            (("b", "c"), ("a", "b")), (("a9",), ("a10",)), (("A",),), (("",),), (("a", 1),), ((1,),), ((None,),), ((True,),),
            (("a" * 41,),), (["a"],), [("a",)], [["a"]], [], [()], ([],), (("a",), ["b"]), ("a",), ("a", "b"), "a", "", None, 0,
            1, True, False, {}, {"a"}, {("a",): 1}, ((("a",),),), (((),),), ("",), (("a",), None), (("a",), 1), (("0a",),),
        ]:
            with self.subTest(thing=repr(thing)):
                self.assertIs(self.kind.holds(thing), False)

    def test_shown(self):
        for a, asked in [
            ((), "0"), (((),), "1"), ((("a",),), "a"), ((("a", "b"),), "a*b"), ((("a", "b"), ("c",)), "a*b + c"),
            ((("ann",), ("bob", "cy3", "d"), ("e",)), "ann + bob*cy3*d + e"),
        ]:
            self.same(self.kind.shown(a), asked)

    def test_twelve_names(self):
        for many in [1, 3, 5, 6, 7, 11, 12]:
            note = tuple(itertools.combinations(TWELVE, many))
            self.assertIs(self.kind.holds(note), True)
            self.assertEqual(self.kind.times(note, note), note)
            self.assertEqual(self.kind.plus(note, note), note)
            self.assertIs(self.kind.holds(note + note[:1]), False)
            self.assertIs(self.kind.holds(note + (("z",),)), True)
            fewer = tuple(itertools.combinations(TWELVE, many - 1))
            self.assertEqual(self.kind.plus(note, fewer), fewer)
            self.assertEqual(self.kind.times(note, fewer), note)

    def test_nothing_is_changed(self):
        for thing in [[["a"], ["b"]], (["a"], ["b"]), [("b",), ("a",)]]:
            before = copy.deepcopy(thing)
            self.kind.holds(thing)
            self.same(thing, before)


class Cuts(Exact):
    def test_of_nought_and_one(self):
        self.same(cuts(()), ((),))
        self.same(cuts(((),)), ())

    def test_ordinary_ones(self):
        for note, asked in [
            ((("a",),), (("a",),)), ((("a", "b"),), (("a",), ("b",))), ((("a",), ("b",)), (("a", "b"),)),
            ((("a", "b"), ("c",)), (("a", "c"), ("b", "c"))), ((("a", "b"), ("a", "c")), (("a",), ("b", "c"))),
            ((("a", "b"), ("a", "c"), ("b", "c")), (("a", "b"), ("a", "c"), ("b", "c"))),
            ((("a", "b"), ("c", "d")), (("a", "c"), ("a", "d"), ("b", "c"), ("b", "d"))),
            ((("a", "b"), ("b", "c"), ("c", "d")), (("a", "c"), ("b", "c"), ("b", "d"))),
            ((("a10", "b"), ("a9", "b")), (("a10", "a9"), ("b",))),
        ]:
            with self.subTest(note=note):
                self.same(cuts(note), asked)

    def test_by_the_words_of_the_point(self):
        for note in chance_notes(4, list("abcdef"), 300):
            with self.subTest(note=note):
                self.same(cuts(note), plain_cuts(note, list("abcdef")))

    def test_cuts_are_notes_and_their_cuts_the_note(self):
        for note in chance_notes(5, list("abcdefgh"), 200) + chance_notes(6, TWELVE, 60):
            with self.subTest(note=note):
                told = cuts(note)
                self.assertIs(Least().holds(told), True)
                self.same(cuts(told), note)

    def test_twelve_names(self):
        for many in range(1, 13):
            note = tuple(itertools.combinations(TWELVE, many))
            self.assertEqual(cuts(note), tuple(itertools.combinations(TWELVE, 13 - many)))

    def test_of_a_sum_and_of_a_product(self):
        kind = Least()
        notes = chance_notes(7, list("abcde"), 25)
        for a, b in itertools.product(notes, notes):
            self.same(cuts(kind.plus(a, b)), kind.times(cuts(a), cuts(b)))
            self.same(cuts(kind.times(a, b)), kind.plus(cuts(a), cuts(b)))


if __name__ == "__main__":
    unittest.main()
