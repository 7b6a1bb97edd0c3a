"""Point 3: answers told row by row, answers turned, and answers over worths, of many askings by seeds."""

import unittest

from samples import Chance, Exact, by_hand

from whencewise.asking import ask
from whencewise.askings import columns_of
from whencewise.heaps import Heaps, lifted
from whencewise.hoards import named, stocked
from whencewise.kinds import Costs, Counts, Pair, Sure, Truth, Voices, Wheel
from whencewise.least import Least
from whencewise.reasons import Reasons, valued
from whencewise.tables import rank, turned

PAIR = Pair(Counts(), Costs())
WORTHS = [
    (Counts(), {"e": 1, "f": 1, "g": 1, "h": 1}), (Counts(), {"e": 2, "f": 3, "h": 10 ** 40}), (Truth(), {"e": True, "g": True, "f": False}),
    (Costs(), {"e": 3, "f": 0, "g": -4, "h": 11}), (Sure(), {"e": (1, 2), "f": (2, 3), "g": (1, 1), "h": (0, 1)}),
    (Voices(), {"e": ("ann",), "f": ("bob", "cid"), "g": ()}), (Least(), {name: ((name,),) for name in "efgh"}),
    (Least(), {"e": (("p",), ("q",)), "f": (("p", "q"),), "h": ((),)}), (Wheel(2), {"e": 1, "f": 1, "g": 1}), (Wheel(6), {"e": 2, "f": 3, "g": 5, "h": 4}),
    (PAIR, {"e": (1, None), "f": (0, 4), "g": (2, -1), "h": (3, 0)}), (Pair(Wheel(2), Pair(Truth(), Counts())), {"e": (1, (True, 2)), "f": (1, (False, 0))}),
    (Heaps(Counts()), {"e": ((1, 1),), "f": ((0, 1), (5, 2)), "g": ((-2, 3),)}), (Heaps(Wheel(2)), {"e": ((0, 1),), "f": ((1, 1),), "h": ((0, 1), (1, 1))}),
    (Reasons(), {"e": ((("p",), (), 2),), "f": ((("p",), (), 1), (("q",), (), 1)), "g": (((), (((("r",), (), 1),),), 1),), "h": (((), (), 1),)}),
]
# A kind, worths of the facts in it, a kind that its notes are turned to, the turn, and whether it keeps lacks.
TURNS = [
    (Counts(), {"e": 1, "f": 2, "g": 3}, Truth(), lambda note: note > 0, True),
    (Counts(), {"e": 1, "f": 2, "g": 3, "h": 4}, Wheel(2), lambda note: note % 2, False),
    (Counts(), {"e": 5, "f": 6, "g": 7, "h": 8}, Wheel(6), lambda note: note % 6, False),
    (Wheel(6), {"e": 2, "f": 3, "g": 5, "h": 4}, Wheel(3), lambda note: note % 3, False),
    (PAIR, {"e": (1, None), "f": (0, 4), "g": (2, -1), "h": (3, 0)}, Costs(), lambda note: note[1], True),
    (PAIR, {"e": (1, None), "f": (0, 4), "g": (2, -1), "h": (3, 0)}, Counts(), lambda note: note[0], True),
    (Sure(), {"e": (1, 2), "f": (2, 3), "g": (1, 1)}, Truth(), lambda note: note[0] > 0, True),
    (Least(), {name: ((name,),) for name in "efgh"}, Truth(), lambda note: note != (), True),
    (Least(), {name: ((name,),) for name in "efgh"}, Truth(), lambda note: any(set(some) <= {"e", "f"} for some in note), False),
    (Voices(), {"e": ("ann",), "f": (), "g": ("bob",)}, Truth(), lambda note: note is not None, True),
    (Heaps(Counts()), {"e": ((1, 1),), "f": ((0, 1), (5, 2)), "g": ((-2, 3),)}, Counts(), lambda heap: sum(note for number, note in heap), True),
    (Heaps(Counts()), {"e": ((1, 1),), "f": ((0, 1), (5, 2)), "g": ((-2, 3),)}, Heaps(Truth()), lifted(Truth(), lambda note: note > 0), True),
]


class Promise(Exact):
    def is_table(self, kind, some):
        columns, pairs = some
        rows = [[rank(value) for value in row] for row, note in pairs]
        self.assertEqual(rows, sorted(rows))
        self.assertEqual(len(set(map(tuple, rows))), len(rows))
        for row, note in pairs:
            self.assertEqual((type(row), len(row)), (tuple, len(columns)))
            self.assertTrue(kind.holds(note) and note != kind.nought())
        self.assertIs(type(pairs), tuple)

    def test_told_row_by_row(self):
        for seed in range(300):
            chance = Chance(seed)
            hoard, asking = chance.hoard(), chance.asking(2 + seed % 3)
            kind, worths = WORTHS[seed % len(WORTHS)]
            for kind, store in [(Reasons(), named(hoard)), (kind, stocked(kind, hoard, worths))]:
                with self.subTest(seed=seed):
                    told = ask(kind, asking, store)
                    self.assertEqual(told[0], columns_of(asking, chance.shapes))
                    self.is_table(kind, told)
                    self.assertEqual(dict(told[1]), by_hand(kind, asking, store, chance.values))

    def test_answers_turned(self):
        for seed in range(200):
            chance = Chance(seed)
            hoard, asking, plainly = chance.hoard(), chance.asking(3), chance.asking(3, plain=True)
            for kind, worths, other, turn, lacks in TURNS:
                store = stocked(kind, hoard, worths)
                beside = {name: turned(some, other, turn) for name, some in store.items()}
                for one in [asking, plainly] if lacks else [plainly]:
                    with self.subTest(seed=seed, one=one):
                        self.same(turned(ask(kind, one, store), other, turn), ask(other, one, beside))

    def test_a_turn_that_does_not_keep_lacks(self):
        """So that leaving out is rightly left out above."""
        hoard = {"r": (("a",), (((1,), "e"),)), "s": (("a",), (((1,), "f"),))}
        asking = ("leave", ("table", "r"), ("table", "s"))
        told = ask(Counts(), asking, stocked(Counts(), hoard, {"e": 1, "f": 2}))
        self.same(told, (("a",), ()))
        self.same(ask(Wheel(2), asking, stocked(Wheel(2), hoard, {"e": 1})), (("a",), (((1,), 1),)))

    def test_answers_over_worths(self):
        for seed in range(250):
            chance = Chance(seed)
            hoard, asking = chance.hoard(), chance.asking(3)
            why = ask(Reasons(), asking, named(hoard))
            for kind, worths in WORTHS:
                with self.subTest(seed=seed, worths=worths):
                    told = ask(kind, asking, stocked(kind, hoard, worths))
                    worth = valued(kind, worths)
                    self.same(turned(why, kind, worth), told)
                    self.same(tuple((row, worth(note)) for row, note in why[1] if worth(note) != kind.nought()), told[1])


if __name__ == "__main__":
    unittest.main()
