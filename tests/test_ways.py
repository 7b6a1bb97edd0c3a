"""Points 31 to 33: the ways of a row, what they say, when they stand, and the cuts of a row."""

import copy
import itertools
import unittest

from samples import REFUSALS, SHAPES, TRUE, Chance, Exact, of

from whencewise.asking import ask
from whencewise.askings import columns_of
from whencewise.errors import NoTable, NotPlain
from whencewise.hoards import facts_of, named, shapes_of, stocked, without
from whencewise.kinds import Counts
from whencewise.least import Least, cuts
from whencewise.reasons import Reasons, valued
from whencewise.tables import note_of
from whencewise.trials import passes
from whencewise.ways import cuts_of, ways

HOARD = {
    "r": (("a", "b"), (((1, "x"), "e"), ((2, "x"), "f"), ((1, "x"), "g"), ((1, "y"), "e"), ((1, "x"), "e"))),
    "s": (("b", "c"), ((("x", 0), "e"), (("x", -3), "h"), (("x", "z"), "h"), (("x", 4), "f"), (("y", 2), "f"), (("y", 1), "f"))),
    "u": (("b", "a"), ((("x", 1), "h"), (("q", 9), "h"))),
    "n": ((), (((), "g"), ((), "e"))),
    "m": (("a", "b"), ()),
}
R, S, U, N, M = [("table", name) for name in "rsunm"]


def one(at, name):
    return ("fact", at, name)


class Ways(Exact):
    def told(self, asking, row, *asked):
        with self.subTest(asking=asking, row=row):
            self.same(ways(asking, HOARD, row), list(asked))

    def test_table(self):
        self.told(R, (1, "x"), one(0, "e"), one(2, "g"), one(4, "e"))
        self.told(R, (2, "x"), one(1, "f"))
        self.told(S, ("x", "z"), one(2, "h"))
        self.told(N, (), one(0, "g"), one(1, "e"))
        self.told(R, (2, "y"))

    def test_numbers_are_sorted_as_numbers(self):
        hoard = {"r": ((), tuple(((), name) for name in "zyxwvutsrqponm"))}
        self.same(ways(R, hoard, ()), [one(at, name) for at, name in enumerate("zyxwvutsrqponm")])

    def test_pick(self):
        self.told(("pick", R, ("same", of("a"), ("just", 1))), (1, "x"), one(0, "e"), one(2, "g"), one(4, "e"))
        self.told(("pick", R, ("same", of("a"), ("just", 1))), (2, "x"))
        self.told(("pick", R, ("not", TRUE)), (1, "x"))

    def test_keep(self):
        self.told(("keep", R, ("a",)), (1,), one(0, "e"), one(2, "g"), one(3, "e"), one(4, "e"))
        self.told(("keep", R, ("b", "a")), ("x", 2), one(1, "f"))
        self.told(("keep", R, ()), (), one(0, "e"), one(1, "f"), one(2, "g"), one(3, "e"), one(4, "e"))
        self.told(("keep", M, ()), ())
        self.told(("keep", R, ("a",)), (3,))

    def test_call(self):
        self.told(("call", U, ("a", "b")), ("q", 9), one(1, "h"))
        self.told(("keep", ("call", U, ("a", "b")), ("b",)), (1,), one(0, "h"))
        self.told(("call", U, ("a", "b")), (9, "q"))

    def test_total(self):
        for value in [0, -3, "z"]:
            self.told(("total", S, "c", ("b", "c")), ("x", value))
        self.told(("total", S, "c", ("b", "c")), ("x", 4), one(3, "f"))
        self.told(("total", S, "c", ("b",)), ("x",), one(3, "f"))
        self.told(("total", S, "c", ("b",)), ("y",), one(4, "f"), one(5, "f"))
        self.told(("total", S, "c", ()), (), one(3, "f"), one(4, "f"), one(5, "f"))
        self.told(("total", S, "b", ("c",)), (4,))
        self.told(("total", R, "a", ()), (), one(0, "e"), one(1, "f"), one(2, "g"), one(3, "e"), one(4, "e"))

    def test_join(self):
        self.told(
            ("join", R, U), (1, "x"), ("both", one(0, "e"), one(0, "h")), ("both", one(2, "g"), one(0, "h")), ("both", one(4, "e"), one(0, "h")),
        )
        self.told(("join", R, S), (2, "x", -3), ("both", one(1, "f"), one(1, "h")))
        self.told(("join", S, R), ("y", 2, 1), ("both", one(4, "f"), one(3, "e")))
        self.told(("join", R, S), (2, "y", 2))
        self.told(("join", R, U), (2, "x"))
        self.told(
            ("join", N, N), (), *[("both", one(at, name), one(beside, other)) for at, name in [(0, "g"), (1, "e")] for beside, other in [(0, "g"), (1, "e")]],
        )
        self.told(("join", R, M), (1, "x"))

    def test_pour(self):
        other = ("keep", U, ("a", "b"))
        self.told(("pour", R, other), (1, "x"), ("one", one(0, "e")), ("one", one(2, "g")), ("one", one(4, "e")), ("other", one(0, "h")))
        self.told(("pour", other, R), (1, "x"), ("one", one(0, "h")), ("other", one(0, "e")), ("other", one(2, "g")), ("other", one(4, "e")))
        self.told(("pour", R, other), (9, "q"), ("other", one(1, "h")))
        self.told(("pour", R, other), (2, "x"), ("one", one(1, "f")))
        self.told(("pour", R, R), (2, "x"), ("one", one(1, "f")), ("other", one(1, "f")))
        self.told(("pour", R, other), (3, "x"))
        # Joins within, of which one side alone has a row of these values.
        self.told(("pour", ("join", R, M), ("join", R, U)), (1, "x"), *[("other", ("both", one(at, name), one(0, "h"))) for at, name in [(0, "e"), (2, "g"), (4, "e")]])
        self.told(("pour", ("join", R, U), ("join", M, R)), (1, "x"), *[("one", ("both", one(at, name), one(0, "h"))) for at, name in [(0, "e"), (2, "g"), (4, "e")]])

    def test_leave(self):
        for other in [R, U, N, M, ("keep", S, ("b",))]:
            self.told(("leave", R, other), (1, "x"), one(0, "e"), one(2, "g"), one(4, "e"))
            self.told(("leave", R, other), (2, "y"))
        self.told(("leave", ("leave", R, R), R), (2, "x"), one(1, "f"))
        self.told(("keep", ("leave", R, U), ("b",)), ("x",), one(0, "e"), one(1, "f"), one(2, "g"), one(4, "e"))
        self.told(("join", ("leave", R, R), ("leave", U, U)), (1, "x"), *[("both", one(at, name), one(0, "h")) for at, name in [(0, "e"), (2, "g"), (4, "e")]])

    def test_within_one_another(self):
        asking = ("total", ("join", R, ("pick", S, ("under", ("just", 1), of("c")))), "c", ("a",))
        self.told(asking, (1,), *[("both", one(at, name), one(3, "f")) for at, name in [(0, "e"), (2, "g")]] + [
            ("both", one(3, "e"), one(4, "f")), ("both", one(4, "e"), one(3, "f")),
        ])
        self.told(asking, (2,), ("both", one(1, "f"), one(3, "f")))
        poured = ("pour", ("keep", ("pour", R, R), ("b",)), ("keep", ("join", N, U), ("b",)))
        self.told(
            poured, ("y",), ("one", ("one", one(3, "e"))), ("one", ("other", one(3, "e"))),
        )
        self.told(poured, ("q",), ("other", ("both", one(0, "g"), one(1, "h"))), ("other", ("both", one(1, "e"), one(1, "h"))))
        twice = ("total", ("total", S, "c", ("b", "c")), "c", ())
        self.told(twice, (), one(3, "f"), one(4, "f"), one(5, "f"))

    def test_values_that_are_no_row(self):
        for asking in [
            R, ("pick", R, TRUE), ("keep", R, ("a", "b")), ("call", R, ("p", "q")), ("join", R, S), ("join", R, R), ("pour", R, R), ("total", R, "a", ("a", "b")),
            ("leave", R, R), ("join", N, R), ("keep", R, ()), ("keep", R, ("a",)), N, ("join", N, N),
        ]:
            length = len(columns_of(asking, shapes_of(HOARD)))
            for other in range(6):
                if other != length:
                    for row in [(1,) * other, (1, "x", 0, 0, 0)[:other]]:
                        self.told(asking, row)
        self.told(R, ("1", "x"))
        self.told(R, (1, 1))

    def test_refused(self):
        hoards = [{name: (columns, ()) for name, columns in SHAPES.items()}]
        hoards.append({name: (columns, ((tuple(range(len(columns))), "e"),)) for name, columns in SHAPES.items()})
        for hoard in hoards:
            for error, asking in REFUSALS:
                for row in [(), (1,), (0, 1)]:
                    self.refuses(error, ways, asking, hoard, row)
        # What is left out is looked at, too.
        self.refuses(NoTable, ways, ("leave", R, ("keep", ("table", "none"), ())), HOARD, (1, "x"))

    def test_nothing_is_changed(self):
        hoard = copy.deepcopy(HOARD)
        told = ways(("join", R, U), hoard, (1, "x"))
        told.clear()
        ways(R, hoard, (1, "x")).clear()
        cuts_of(("join", R, U), hoard, (1, "x"))
        self.same(hoard, HOARD)
        self.assertEqual(len(ways(("join", R, U), hoard, (1, "x"))), 3)

    def test_two_thousand_ways(self):
        hoard = {"r": (("a",), tuple(((at,), f"e{at}") for at in range(45))), "s": (("b",), tuple(((at,), f"f{at}") for at in range(44)))}
        asking = ("join", ("table", "r"), ("table", "s"))
        for _ in range(24):
            asking = ("keep", asking, ("a", "b"))
        asked = [("both", one(at, f"e{at}"), one(beside, f"f{beside}")) for at in range(45) for beside in range(44)]
        self.same(ways(("keep", asking, ()), hoard, ()), asked)


def followed(asking, hoard, way):
    """The row that a way leads to, how many it says, its facts and its bars."""
    word = asking[0]
    if word == "table":
        row, name = hoard[asking[1]][1][way[1]]
        assert way == ("fact", way[1], name)
        return row, 1, (name,), ()
    if word == "join":
        assert way[0] == "both" and len(way) == 3
        row, many, facts, bars = followed(asking[1], hoard, way[1])
        beside, more, others, bars_beside = followed(asking[2], hoard, way[2])
        values = dict(zip(columns_of(asking[1], shapes_of(hoard)), row))
        for column, value in zip(columns_of(asking[2], shapes_of(hoard)), beside):
            assert values.setdefault(column, value) == value
        return tuple(values.values()), many * more, facts + others, bars + bars_beside
    if word == "pour":
        assert way[0] in ("one", "other") and len(way) == 2
        return followed(asking[1 if way[0] == "one" else 2], hoard, way[1])
    row, many, facts, bars = followed(asking[1], hoard, way)
    values = dict(zip(columns_of(asking[1], shapes_of(hoard)), row))
    if word == "pick":
        assert passes(asking[2], tuple(values), row)
    if word == "total":
        assert values[asking[2]] > 0
        many *= values[asking[2]]
    if word in ("keep", "total"):
        row = tuple(values[column] for column in asking[-1])
    if word == "leave":
        bars += ((asking[2], tuple(values[column] for column in columns_of(asking[2], shapes_of(hoard)))),)
    return row, many, facts, bars


class Says(Exact):
    def each(self, plain, seeds, depth=3):
        """Askings over hoards, each with the rows of its answer and of the answer without leaving out."""
        for seed in seeds:
            chance = Chance(seed)
            hoard, asking = chance.hoard(), chance.asking(depth, plain)
            some = ask(Reasons(), asking, named(hoard))
            for row, reason in some[1]:
                with self.subTest(seed=seed, asking=asking, row=row):
                    yield asking, hoard, row, reason

    def test_the_reason_is_the_sum_of_the_ways(self):
        reasons = Reasons()
        for asking, hoard, row, reason in self.each(False, range(200)):
            told = ways(asking, hoard, row)
            self.assertEqual(told, sorted(set(told)))
            found = reasons.nought()
            for way in told:
                end, many, facts, bars = followed(asking, hoard, way)
                self.assertEqual(end, row)
                term = ((tuple(sorted(facts)), (), many),)
                for other, values in bars:
                    there = note_of(ask(reasons, other, named(hoard)), reasons, values)
                    term = reasons.times(term, reasons.lack(there))
                found = reasons.plus(found, term)
            self.same(found, reason)

    def test_just_the_rows_of_the_answer_in_reasons(self):
        for seed in range(60):
            chance = Chance(seed)
            hoard, asking = chance.hoard(), chance.asking(3)
            columns, pairs = ask(Reasons(), asking, named(hoard))
            rows = [row for row, note in pairs]
            for row in itertools.product(chance.values, repeat=len(columns)):
                self.assertEqual(ways(asking, hoard, row) != [], row in rows)

    def test_as_many_as_the_ways_say(self):
        for asking, hoard, row, reason in self.each(True, range(100)):
            many = sum(followed(asking, hoard, way)[1] for way in ways(asking, hoard, row))
            self.assertEqual(many, valued(Counts(), dict.fromkeys("efgh", 1))(reason))

    def stands(self, asking, hoard, way, names):
        row, many, facts, bars = followed(asking, hoard, way)
        return set(facts) <= set(names) and not any(
            self.stands(other, hoard, beside, names) for other, values in bars for beside in ways(other, hoard, values)
        )

    def test_told_where_a_way_stands(self):
        for asking, hoard, row, reason in self.each(False, range(40)):
            for names in itertools.chain.from_iterable(itertools.combinations("efgh", many) for many in range(5)):
                alone = without(hoard, [name for name in "efgh" if name not in names])
                there = note_of(ask(Counts(), asking, stocked(Counts(), alone, dict.fromkeys("efgh", 1))), Counts(), row) != 0
                self.assertEqual(any(self.stands(asking, hoard, way, names) for way in ways(asking, hoard, row)), there)


class Cuts(Exact):
    def told(self, asking, row, asked):
        with self.subTest(asking=asking, row=row):
            self.same(cuts_of(asking, HOARD, row), asked)

    def test_rows_that_are_there(self):
        self.told(R, (1, "x"), (("e", "g"),))
        self.told(R, (2, "x"), (("f",),))
        self.told(("join", R, U), (1, "x"), (("e", "g"), ("h",)))
        self.told(("keep", ("join", R, S), ("a",)), (1,), (("e", "f", "h"), ("e", "g")))
        self.told(("keep", R, ()), (), (("e", "f", "g"),))
        self.told(("join", N, N), (), (("e", "g"),))
        self.told(("total", S, "c", ("b",)), ("y",), (("f",),))

    def test_values_that_are_no_row(self):
        for asking, row in [(R, (2, "y")), (R, ()), (R, (1,)), (R, (1, "x", 0)), (M, ()), (("join", R, U), (2, "x")), (("keep", M, ()), ())]:
            self.told(asking, row, ((),))
        for value in [0, -3, "z"]:
            self.told(("total", S, "c", ("b", "c")), ("x", value), ((),))

    def test_refused(self):
        hoard = {name: (columns, ()) for name, columns in SHAPES.items()}
        for error, asking in REFUSALS:
            leaves = "leave" in str(asking)
            self.refuses(NotPlain if leaves else error, cuts_of, asking, hoard, (1,))
            # A leave about it or beside it goes ahead.
            self.refuses(NotPlain, cuts_of, ("join", asking, ("leave", R, R)), hoard, (1,))
            self.refuses(NotPlain, cuts_of, ("leave", asking, asking), hoard, ())
        self.refuses(NotPlain, cuts_of, ("keep", ("leave", R, U), ("a",)), HOARD, (1,))
        self.refuses(NotPlain, cuts_of, ("leave", ("table", "none"), R), HOARD, (1,))

    def test_what_is_told_when_facts_are_taken_out(self):
        for seed in range(60):
            chance = Chance(seed, names="efghi")
            hoard, asking = chance.hoard(), chance.asking(3, plain=True)
            for row, note in ask(Counts(), asking, stocked(Counts(), hoard, dict.fromkeys("efghi", 1)))[1]:
                found = cuts_of(asking, hoard, row)
                self.assertTrue(Least().holds(found))
                for names in itertools.chain.from_iterable(itertools.combinations("efghi", many) for many in range(6)):
                    left = ask(Counts(), asking, stocked(Counts(), without(hoard, list(names)), dict.fromkeys("efghi", 1)))
                    gone = note_of(left, Counts(), row) == 0
                    self.assertEqual(any(set(cut) <= set(names) for cut in found), gone, (seed, row, names))

    def test_cuts_of_the_note_in_least(self):
        for seed in range(100):
            chance = Chance(seed)
            hoard, asking = chance.hoard(), chance.asking(3, plain=True)
            some = ask(Least(), asking, stocked(Least(), hoard, {name: ((name,),) for name in facts_of(hoard)}))
            for row in [row for row, note in some[1]] + [(7,), ()]:
                self.same(cuts_of(asking, hoard, row), cuts(note_of(some, Least(), row)))

    def test_twelve_names(self):
        names = [f"f{at}" for at in range(12)]
        hoard = {"r": (("a",), tuple(((at // 2,), name) for at, name in enumerate(names)))}
        asking = ("keep", ("table", "r"), ())
        for _ in range(15):
            asking = ("join", asking, ("keep", ("table", "r"), ()))
        self.same(cuts_of(asking, hoard, ()), (tuple(sorted(names)),))
        asking = ("keep", ("pick", ("table", "r"), ("same", of("a"), ("just", 0))), ())
        for at in range(1, 6):
            asking = ("join", asking, ("keep", ("pick", ("table", "r"), ("same", of("a"), ("just", at))), ()))
        self.same(cuts_of(asking, hoard, ()), tuple(sorted(tuple(sorted(names[at:at + 2])) for at in range(0, 12, 2))))


if __name__ == "__main__":
    unittest.main()
