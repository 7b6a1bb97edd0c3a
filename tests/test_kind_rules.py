"""Points 4 and 14: what holds of every kind."""

import copy
import itertools
import unittest

from samples import LONGEST, NO_NOTES, SIXTY, Exact, all_notes, deep, made_notes, plain_notes

from whencewise.heaps import Heaps
from whencewise.kinds import Costs, Counts, Kind, Pair, Single, Sure, Truth, Voices, Wheel
from whencewise.least import Least
from whencewise.reasons import Reasons


class Rules(Exact):
    def of_each(self, deed):
        for word, kind, notes in all_notes():
            with self.subTest(kind=word):
                deed(kind, notes)

    def test_all_are_notes(self):
        def deed(kind, notes):
            for note in notes + [kind.nought(), kind.one()]:
                self.assertIs(kind.holds(note), True, note)

        self.of_each(deed)

    def test_nought_and_one_differ(self):
        def deed(kind, notes):
            self.assertNotEqual(kind.nought(), kind.one())

        self.of_each(deed)

    def test_what_is_told_is_a_note(self):
        def deed(kind, notes):
            for a, b in itertools.product(notes, notes):
                for told in [kind.plus(a, b), kind.times(a, b), kind.lack(a), kind.many(3, a)]:
                    self.assertIs(kind.holds(told), True, told)

        self.of_each(deed)

    def test_nought_and_one(self):
        def deed(kind, notes):
            for a in notes:
                self.same(kind.plus(a, kind.nought()), a)
                self.same(kind.plus(kind.nought(), a), a)
                self.same(kind.times(a, kind.one()), a)
                self.same(kind.times(kind.one(), a), a)
                self.same(kind.times(a, kind.nought()), kind.nought())
                self.same(kind.times(kind.nought(), a), kind.nought())

        self.of_each(deed)

    def test_order(self):
        def deed(kind, notes):
            for a, b in itertools.product(notes, notes):
                self.same(kind.plus(a, b), kind.plus(b, a))
                self.same(kind.times(a, b), kind.times(b, a))

        self.of_each(deed)

    def test_grouping(self):
        def deed(kind, notes):
            for a, b, c in itertools.product(notes, notes, notes):
                self.same(kind.plus(kind.plus(a, b), c), kind.plus(a, kind.plus(b, c)))
                self.same(kind.times(kind.times(a, b), c), kind.times(a, kind.times(b, c)))

        self.of_each(deed)

    def test_a_product_with_a_sum(self):
        def deed(kind, notes):
            for a, b, c in itertools.product(notes, notes, notes):
                self.same(kind.times(a, kind.plus(b, c)), kind.plus(kind.times(a, b), kind.times(a, c)))

        self.of_each(deed)

    def test_many_is_by_sums(self):
        def deed(kind, notes):
            for a in notes:
                told = kind.nought()
                for n in range(101):
                    self.same(kind.many(n, a), told)
                    told = kind.plus(told, a)

        self.of_each(deed)

    def test_many_of_great_numbers(self):
        def deed(kind, notes):
            for a in notes:
                # By doubling: many of 2n is many of n with itself, and one more where n is odd.
                for n in [SIXTY, LONGEST, 10 ** 59]:
                    told = kind.nought()
                    for figure in bin(n)[2:]:
                        told = kind.plus(told, told)
                        told = kind.plus(told, a) if figure == "1" else told
                    self.same(kind.many(n, a), told)

        self.of_each(deed)

    def test_lacks(self):
        for word, kind, notes in plain_notes() + [entry for entry in made_notes() if isinstance(entry[1], Heaps)]:
            with self.subTest(kind=word):
                self.same(kind.lack(kind.nought()), kind.one())
                self.same(kind.lack(kind.one()), kind.nought())
                for a in notes:
                    self.same(kind.lack(a), kind.one() if a == kind.nought() else kind.nought())

    def test_texts(self):
        def deed(kind, notes):
            texts = [kind.shown(a) for a in notes]
            for text in texts:
                self.assertIs(type(text), str)
            self.assertEqual(len(set(texts)), len(texts))

        self.of_each(deed)

    def test_nothing_is_changed(self):
        def deed(kind, notes):
            before = copy.deepcopy(notes)
            for a, b in itertools.product(notes, notes):
                kind.plus(a, b), kind.times(a, b), kind.many(4, a), kind.lack(a), kind.shown(a), kind.holds(a)
            self.same(notes, before)

        self.of_each(deed)

    def test_nothing_that_is_no_note_is_changed(self):
        def deed(kind, notes):
            for thing in [[["a"]], [1], {"a": [1]}, ([1], [2]), ((1, [2]),)]:
                before = copy.deepcopy(thing)
                self.assertIs(kind.holds(thing), False)
                self.same(thing, before)

        self.of_each(deed)

    def test_two_objects_of_one_kind_agree(self):
        for (word, kind, notes), (_, other, _) in zip(all_notes(), all_notes()):
            with self.subTest(kind=word):
                for a in notes:
                    self.same(kind.plus(a, other.one()), other.plus(a, kind.one()))


class Holds(Exact):
    def test_no_notes_of_any_kind(self):
        for word, kind, notes in all_notes():
            for thing in NO_NOTES:
                with self.subTest(kind=word, thing=repr(thing)):
                    self.assertIs(kind.holds(thing), False)

    def test_notes_as_lists(self):
        for word, kind, notes in all_notes():
            for note in notes:
                if isinstance(note, tuple):
                    with self.subTest(kind=word, note=note):
                        self.assertIs(kind.holds(list(note)), False)
                        for at, inner in enumerate(note):
                            if isinstance(inner, tuple):
                                self.assertIs(kind.holds(note[:at] + (list(inner),) + note[at + 1:]), False)

    def test_deep_things(self):
        for word, kind, notes in all_notes():
            # From three on: a name within two tuples is a note of Least.
            for depth in [3, 4, 5, 10, 30, 49, 50]:
                for thing in [(), 0, 1, None, True, "a", [], {}]:
                    with self.subTest(kind=word, depth=depth, thing=thing):
                        self.assertIs(kind.holds(deep(thing, depth)), False)
                        lists = thing
                        for _ in range(depth):
                            lists = [lists]
                        self.assertIs(kind.holds(lists), False)
                        self.assertIs(kind.holds((lists, lists)), False)

    def test_branching_things(self):
        # Each tuple bears the one below twice or thrice: to walk all of it would never end.
        for thing in [(), 0, "a", ("a",)]:
            for many in [2, 3]:
                for _ in range(50):
                    thing = (thing,) * many
                for word, kind, notes in all_notes():
                    with self.subTest(kind=word, many=many):
                        self.assertIs(kind.holds(thing), False)


class Singles(Exact):
    def test_which_stands_under_which(self):
        self.assertTrue(issubclass(Single, Kind))
        for some in [Counts, Wheel, Pair, Heaps, Reasons]:
            self.assertTrue(issubclass(some, Kind))
            self.assertFalse(issubclass(some, Single))
        for some in [Truth, Costs, Sure, Voices, Least]:
            self.assertTrue(issubclass(some, Single))
            self.assertTrue(issubclass(some, Kind))
        every = [Counts, Wheel, Pair, Heaps, Reasons, Truth, Costs, Sure, Voices, Least]
        for one, other in itertools.permutations(every, 2):
            self.assertFalse(issubclass(one, other))

    def test_objects(self):
        for kind in [Truth(), Costs(), Sure(), Voices(), Least()]:
            self.assertTrue(isinstance(kind, Single) and isinstance(kind, Kind))
        for kind in [Counts(), Wheel(3), Pair(Truth(), Costs()), Heaps(Truth()), Reasons()]:
            self.assertTrue(isinstance(kind, Kind))
            self.assertFalse(isinstance(kind, Single))

    def test_a_note_with_itself(self):
        for word, kind, notes in all_notes():
            if isinstance(kind, Single):
                for a in notes:
                    with self.subTest(kind=word, note=a):
                        self.same(kind.plus(a, a), a)
                        self.same(kind.many(0, a), kind.nought())
                        for n in [1, 2, 3, 100, SIXTY]:
                            self.same(kind.many(n, a), a)

    def test_others_are_not(self):
        for kind in [Counts(), Wheel(2), Wheel(3)]:
            self.assertNotEqual(kind.plus(1, 1), 1)


if __name__ == "__main__":
    unittest.main()
