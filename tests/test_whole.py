"""Points 1 and 3 over the whole program, and the interface: its names and arguments."""

import importlib
import inspect
import itertools
import unittest

from samples import Chance, Exact

from whencewise.alike import compared
from whencewise.asking import ask
from whencewise.askings import columns_of, plain
from whencewise.errors import WhenceError
from whencewise.heaps import Heaps, lifted, sum_of
from whencewise.hoards import fallen, facts_of, left_of, named, shapes_of, stocked, without
from whencewise.kinds import Costs, Counts, Kind, Pair, Single, Sure, Truth, Voices, Wheel
from whencewise.least import Least
from whencewise.plans import once, steps
from whencewise.reasons import Reasons, facts_in, valued
from whencewise.sums import heaped
from whencewise.tables import note_of, turned
from whencewise.texts import answer, read, show, told
from whencewise.ways import cuts_of, ways

HOARD = {
    "sold": (("who", "what", "price"), (
        (("ann", "egg", 3), "e1"), (("ann", "ham", 5), "e2"), (("bob", "egg", 3), "e3"), (("bob", "tea", 0), "e4"), (("cid", "ham", 5), "e5"), (("cid", "ham", 5), "e2"),
    )),
    "lives": (("who", "town"), ((("ann", "ulm"), "f1"), (("bob", "ulm"), "f2"), (("cid", "bonn"), "f3"))),
    "banned": (("what",), ((("ham",), "g"),)),
}
TEXT = "(total (pick (leave (join sold lives) banned) (both (not (either (same .town 'bonn) (under .price 1))) (under .who .town))) price town)"
WORTHS = [
    (Counts(), lambda at: at % 4), (Truth(), lambda at: at % 3 != 0), (Costs(), lambda at: [None, 0, -2, 5][at % 4]), (Sure(), lambda at: [(0, 1), (1, 2), (1, 1)][at % 3]),
    (Voices(), lambda at: [None, (), ("p",), ("q", "r")][at % 4]), (Wheel(6), lambda at: at % 6), (Pair(Counts(), Costs()), lambda at: (at % 2, [None, at][at % 3 != 1])),
    (Heaps(Counts()), lambda at: [(), ((0, 1),), ((-1, 2), (4, 1))][at % 3]), (Reasons(), lambda at: [(), ((("p",), (), 1),), (((), (((("q",), (), 1),),), 2),)][at % 3]),
    (Least(), lambda at: [(), ((),), (("p",),), (("p",), ("q",))][at % 4]),
]


class ByHand(Exact):
    def test_a_text_to_its_end(self):
        asking = read(TEXT)
        self.same(show(asking), TEXT)
        self.same(columns_of(asking, shapes_of(HOARD)), ("town",))
        why = ask(Reasons(), asking, named(HOARD))
        self.same(told(Reasons(), why), "'ulm : 3*e1*f1 + 5*e2*f1*!(g) + 3*e3*f2")
        self.same(answer(Counts(), TEXT, stocked(Counts(), HOARD, dict.fromkeys(facts_of(HOARD), 1))), "'ulm : 6")
        self.same(answer(Counts(), TEXT, stocked(Counts(), without(HOARD, ["g"]), dict.fromkeys(facts_of(HOARD), 1))), "'ulm : 11")
        self.same(told(Reasons(), left_of(why, ["g", "f2"])), "'ulm : 3*e1*f1 + 5*e2*f1")
        self.same(fallen(why, ["f1", "f2"]), [("ulm",)])
        self.same(fallen(why, ["f1", "e5", "q"]), [])
        self.same(facts_in(why[1][0][1]), ["e1", "e2", "e3", "f1", "f2", "g"])
        self.same(ways(asking, HOARD, ("ulm",)), [
            ("both", ("fact", 0, "e1"), ("fact", 0, "f1")), ("both", ("fact", 1, "e2"), ("fact", 0, "f1")), ("both", ("fact", 2, "e3"), ("fact", 1, "f2")),
        ])

    def test_settled(self):
        told_by = steps(read(TEXT), shapes_of(HOARD))
        settled = show(told_by[-1])
        lives = "(pick (pick lives (not (same .town 'bonn))) (under .who .town))"
        self.same(settled, f"(total (leave (join (pick sold (not (under .price 1))) {lives}) banned) price town)")
        self.same(answer(Reasons(), settled, named(HOARD)), answer(Reasons(), TEXT, named(HOARD)))

    def test_cuts_and_sums(self):
        asking = read("(keep (pick (join sold lives) (same .town 'ulm)) what)")
        self.same(cuts_of(asking, HOARD, ("egg",)), (("e1", "e3"), ("e1", "f2"), ("e3", "f1"), ("f1", "f2")))
        self.same(compared(asking, ("pour", asking, asking), HOARD), ("plain", ("e1", "f1")))
        self.same(compared(asking, read("(keep (join sold lives) what)"), HOARD), ("none", ("e2", "f3")))
        self.same(once(("pour", asking, asking)), asking)
        heaps = heaped(Reasons(), named(HOARD)["sold"], "price", ("who",))
        counts = turned(heaps, Heaps(Counts()), lifted(Counts(), valued(Counts(), dict.fromkeys(facts_of(HOARD), 1))))
        self.same([(row, sum_of(heap)) for row, heap in counts[1]], [(("ann",), 8), (("bob",), 3), (("cid",), 10)])


class BySeeds(Exact):
    def test_read_settled_shown_and_asked(self):
        for seed in range(120):
            chance = Chance(seed)
            hoard, asking = chance.hoard(), chance.asking(3)
            asking = ("pick", asking, chance.test(columns_of(asking, chance.shapes), 3))
            settled = steps(read(show(asking)), shapes_of(hoard))[-1]
            self.same(steps(settled, shapes_of(hoard)), [settled])
            why = ask(Reasons(), asking, named(hoard))
            self.same(answer(Reasons(), show(settled), named(hoard)), told(Reasons(), why))
            for kind, worth in WORTHS:
                worths = {name: worth(seed + at) for at, name in enumerate("efgh")}
                with self.subTest(seed=seed, worths=worths):
                    store = stocked(kind, hoard, worths)
                    asked = told(kind, turned(why, kind, valued(kind, worths)))
                    self.same(answer(kind, show(asking), store), asked)
                    self.same(answer(kind, show(settled), store), asked)
                    if isinstance(kind, Single):
                        self.same(told(kind, ask(kind, once(("pour", settled, asking)), store)), asked)

    def test_what_is_left(self):
        for seed in range(80):
            chance = Chance(seed)
            hoard, asking = chance.hoard(), chance.asking(3)
            why = ask(Reasons(), asking, named(hoard))
            for names in itertools.combinations("efgh", 2):
                less = without(hoard, list(names))
                left = left_of(why, list(names))
                self.same(told(Reasons(), left), answer(Reasons(), show(asking), named(less)))
                worths = dict.fromkeys("efgh", 1)
                self.same(told(Counts(), turned(left, Counts(), valued(Counts(), worths))), answer(Counts(), show(asking), stocked(Counts(), less, worths)))
                rows = [row for row, note in left[1]]
                self.same(fallen(why, list(names)), [row for row, note in why[1] if row not in rows])
                if plain(asking):
                    for row, note in why[1]:
                        cut = any(set(some) <= set(names) for some in cuts_of(asking, hoard, row))
                        self.assertEqual(cut, row not in rows)

    def test_a_row_and_its_ways(self):
        for seed in range(80):
            chance = Chance(seed)
            hoard, asking = chance.hoard(), chance.asking(3, plain=True)
            why = ask(Reasons(), asking, named(hoard))
            for row, reason in why[1]:
                terms = sum(times for facts, bars, times in reason)
                self.assertGreaterEqual(terms, len(ways(asking, hoard, row)))
                self.same(note_of(why, Reasons(), row), reason)


    def test_steps_keep_ways_and_cuts(self):
        for seed in range(60):
            chance = Chance(seed)
            hoard, asking = chance.hoard(), chance.asking(3)
            asking = ("pick", asking, chance.test(columns_of(asking, chance.shapes), 2))
            rows = [row for row, note in ask(Reasons(), asking, named(hoard))[1]] + [(), (7, 7)]
            for one in steps(asking, shapes_of(hoard)):
                for row in rows:
                    self.same(ways(one, hoard, row), ways(asking, hoard, row))
                    if plain(asking):
                        self.same(cuts_of(one, hoard, row), cuts_of(asking, hoard, row))


class Bounds(Exact):
    """Askings as deep and wide as they may be, and those that steps makes of them."""

    def all_of(self, asking, hoard, row):
        """The asking, read from its text, and what it is settled to: the same all along."""
        shapes = shapes_of(hoard)
        asking = read(show(asking))
        last = steps(asking, shapes)[-1]
        self.same(steps(last, shapes), [last])
        why = ask(Reasons(), asking, named(hoard))
        self.same(ask(Reasons(), last, named(hoard)), why)
        self.same(columns_of(last, shapes), columns_of(asking, shapes))
        self.same(plain(last), plain(asking))
        self.same(ways(last, hoard, row), ways(asking, hoard, row))
        self.same(once(last)[0], last[0])
        self.assertEqual(show(last).count("(same"), show(last).count("(pick"))
        if plain(asking):
            self.same(compared(asking, last, hoard), ("every", ()))
            self.same(cuts_of(last, hoard, row), cuts_of(asking, hoard, row))
        return why, last

    def test_forty_sames(self):
        tests = [f"(same .a {at % 2})" for at in range(0, 80, 2)]
        while len(tests) > 1:
            tests = [f"(both {' '.join(tests[at:at + 2])})" if tests[at + 1:] else tests[at] for at in range(0, len(tests), 2)]
        text = f"(pick {'(keep ' * 29}r{' a b)' * 29} {tests[0]})"
        hoard = {"r": (("a", "b"), (((0, 1), "e"), ((1, 1), "f"), ((0, 2), "e")))}
        why, last = self.all_of(read(text), hoard, (0, 2))
        self.same(told(Reasons(), why), "0 1 : e; 0 2 : e")
        self.assertEqual(show(last), "(keep " * 29 + "(pick " * 40 + "r" + " (same .a 0))" * 40 + " a b)" * 29)

    def test_a_chain_of_both(self):
        text = "(pick r " + "(both (not (not (same .b 1))) " * 25 + "(same .a 0)" + ")" * 25 + ")"
        hoard = {"r": (("a", "b"), (((0, 1), "e"), ((1, 1), "f"), ((0, 2), "e")))}
        why, last = self.all_of(read(text), hoard, (0, 1))
        self.same(told(Reasons(), why), "0 1 : e")
        self.assertEqual(show(last).count("(pick"), 26)

    def test_sixteen_tables(self):
        for word, many in [("join", 1), ("pour", 16)]:
            asking = f"({word} " * 15 + "r" + " r)" * 15
            text = f"(pick (keep (call {asking} x y) x y) (not (either (not (same .x 0)) (not (same .y .y)))))"
            hoard = {"r": (("a", "b"), (((0, 1), "e"), ((1, 1), "f")))}
            shapes = shapes_of(hoard)
            told_by = steps(read(text), shapes)
            for one in [told_by[0], told_by[len(told_by) // 2], told_by[-1]]:
                why = ask(Reasons(), one, named(hoard))
                self.same(why, (("x", "y"), (((0, 1), ((("e",) * (16 // many), (), many),)),)))
                self.assertEqual(len(ways(one, hoard, (0, 1))), many)
                self.same(cuts_of(one, hoard, (0, 1)), (("e",),))
                self.same(compared(one, told_by[0], hoard), ("every", ()))

    def test_leaves_thirty_deep(self):
        text = "r"
        for _ in range(15):
            text = f"(leave r (keep {text} b a))"
        hoard = {"r": (("a", "b"), (((0, 1), "e"), ((1, 1), "f")))}
        self.assertEqual(text.count("("), 30)
        why = ask(Reasons(), read(text), named(hoard))
        self.assertEqual(told(Reasons(), why).count("!("), 30)
        self.same(answer(Counts(), text, stocked(Counts(), hoard, {"e": 1, "f": 2})), "none")
        self.same(left_of(why, ["f"]), ask(Reasons(), read(text), named(without(hoard, ["f"]))))
        self.same(ways(read(text), hoard, (0, 1)), [("fact", 0, "e")])


INTERFACE = {
    "errors": {},
    "names": {"is_whole": ["thing"], "is_name": ["thing"]},
    "shares": {"share": ["top", "bottom"]},
    "kinds": {"Counts": [], "Wheel": ["size"], "Pair": ["first", "second"], "Truth": [], "Costs": [], "Sure": [], "Voices": []},
    "least": {"Least": [], "cuts": ["note"]},
    "heaps": {"Heaps": ["kind"], "lifted": ["kind", "way"], "sum_of": ["heap"]},
    "reasons": {"Reasons": [], "fact": ["name"], "valued": ["kind", "worths"], "facts_in": ["reason"]},
    "tables": {"rank": ["value"], "table": ["kind", "columns", "pairs"], "turned": ["some", "kind", "way"], "note_of": ["some", "kind", "row"]},
    "trials": {"passes": ["test", "columns", "row"], "columns_in": ["test"], "called": ["test", "names"]},
    "askings": {"columns_of": ["asking", "shapes"], "plain": ["asking"]},
    "asking": {"ask": ["kind", "asking", "store"]},
    "sums": {"heaped": ["kind", "some", "column", "columns"]},
    "hoards": {
        "stocked": ["kind", "hoard", "worths"], "named": ["hoard"], "without": ["hoard", "names"], "facts_of": ["hoard"], "shapes_of": ["hoard"],
        "left_of": ["some", "names"], "fallen": ["some", "names"],
    },
    "ways": {"ways": ["asking", "hoard", "row"], "cuts_of": ["asking", "hoard", "row"]},
    "plans": {"step": ["asking", "shapes"], "steps": ["asking", "shapes"], "once": ["asking"]},
    "alike": {"compared": ["one", "other", "hoard"]},
    "texts": {
        "read_value": ["text"], "show_value": ["value"], "read": ["text"], "show": ["asking"], "told": ["kind", "some"], "answer": ["kind", "text", "store"],
    },
}
METHODS = {"nought": [], "one": [], "plus": ["a", "b"], "times": ["a", "b"], "lack": ["a"], "many": ["n", "a"], "holds": ["thing"], "shown": ["a"]}
ERRORS = ["NoName", "NoNote", "NoKind", "Twice", "Misfit", "NoTable", "NoColumn", "Unlike", "NotPlain", "NoText"]


class Interface(unittest.TestCase):
    def test_names_and_arguments(self):
        for file, names in INTERFACE.items():
            module = importlib.import_module(f"whencewise.{file}")
            for name, arguments in names.items():
                with self.subTest(file=file, name=name):
                    thing = getattr(module, name)
                    self.assertEqual(thing.__module__, f"whencewise.{file}")
                    self.assertEqual(list(inspect.signature(thing).parameters), arguments)

    def test_methods_of_kinds(self):
        for kind in [Counts(), Truth(), Costs(), Sure(), Voices(), Wheel(5), Pair(Counts(), Truth()), Least(), Heaps(Counts()), Reasons()]:
            self.assertIsInstance(kind, Kind)
            self.assertEqual(isinstance(kind, Single), type(kind) in (Truth, Costs, Sure, Voices, Least))
            for name, arguments in METHODS.items():
                self.assertEqual(list(inspect.signature(getattr(kind, name)).parameters), arguments)

    def test_errors(self):
        module = importlib.import_module("whencewise.errors")
        self.assertEqual(WhenceError.__bases__, (ValueError,))
        for name in ERRORS:
            self.assertEqual(getattr(module, name).__bases__, (WhenceError,))


if __name__ == "__main__":
    unittest.main()
