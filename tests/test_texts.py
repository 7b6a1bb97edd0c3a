"""Points 40 to 42: values, tests and askings written and read, tables told, and a store's answer to a text."""

import copy
import itertools
import unittest

from samples import LONGEST, NO_NOTES, R, REFUSALS, S, SHAPES, SIXTY, TRUE, Chance, Exact, all_notes, of

from whencewise.asking import ask
from whencewise.errors import NoColumn, NoTable, NoText, Twice, Unlike
from whencewise.heaps import Heaps
from whencewise.hoards import named, stocked
from whencewise.kinds import Costs, Counts, Pair, Sure, Truth, Voices, Wheel
from whencewise.least import Least
from whencewise.reasons import Reasons, fact
from whencewise.tables import table
from whencewise.texts import answer, read, read_value, show, show_value, told

FORTY = "a" * 40
VALUES = [
    (0, "0"), (1, "1"), (-1, "-1"), (10, "10"), (-205, "-205"), (SIXTY, str(SIXTY)), (LONGEST, "9" * 60), (-LONGEST, "-" + "9" * 60),
    ("a", "'a"), ("ann", "'ann"), ("z09", "'z09"), (FORTY, "'" + FORTY), ("not", "'not"), ("pick", "'pick"),
]
NO_VALUES = [
    "", " ", "-", "-0", "00", "01", "-01", "007", "+1", "--1", "1-", "1 ", " 1", "- 1", "1 2", "1_0", "1.0", "1e3", "0x1", "9" * 61, "-" + "9" * 61, "1" + "0" * 60,
    "'", "''", "'A", "'1", "'1a", "'a ", " 'a", "' a", "'a b", "'a'", "a", "ann", ".a", "'-1", "'" + FORTY + "a", "'a_b", "'a\n", "1\n", "\n1", "1\t", "'a\t", "\t", "\n",
    "(1)", "('a)", "1)", "(", ")", "'(", "\u0661", "\u00b2", "1\u0660", "'\u00e4", "-'a", "'-a", "0-", "-a", "1a", "9" * 5000, "0" * 61,
]


class Value(Exact):
    def test_written_and_read(self):
        for value, text in VALUES:
            self.same(show_value(value), text)
            self.same(read_value(text), value)

    def test_what_writes_none(self):
        for text in NO_VALUES:
            with self.subTest(text=text[:70]):
                self.refuses(NoText, read_value, text)

    def test_things_that_are_no_texts(self):
        for thing in NO_NOTES + [0, 1, -1, True, None, ("'a",), ["'a"], b"1", b"'a", 1.5]:
            if not isinstance(thing, str):
                self.refuses(NoText, read_value, thing)

    def test_all_numbers_of_a_few_figures(self):
        for value in range(-1200, 1200):
            self.same(read_value(show_value(value)), value)
        for length in range(1, 61):
            for figures in ["1" + "0" * (length - 1), "9" * length]:
                self.same(read_value(figures), int(figures))
                self.same(read_value("-" + figures), -int(figures))

    def test_each_text_of_a_few_signs(self):
        for signs in itertools.chain.from_iterable(itertools.product("-01'aA .(\t", repeat=many) for many in range(1, 5)):
            text = "".join(signs)
            number = text.lstrip("-").isdigit() and text == str(int(text)) if text.count("-") < 2 and text.lstrip("-") else False
            name = text[:1] == "'" and text[1:2] == "a" and not set(text[1:]) - set("a01")
            if number:
                self.same(read_value(text), int(text))
            elif name:
                self.same(read_value(text), text[1:])
            else:
                self.refuses(NoText, read_value, text)


KEEP = ("keep", R, ("a",))
WRITTEN = [
    ("r", R), ("pick", ("table", "pick")), (FORTY, ("table", FORTY)),
    ("(pick r (same .a .b))", ("pick", R, ("same", of("a"), of("b")))), ("(pick r (under .a 3))", ("pick", R, ("under", of("a"), ("just", 3)))),
    ("(pick r (under -3 'ann))", ("pick", R, ("under", ("just", -3), ("just", "ann")))), ("(pick r (same 0 .b))", ("pick", R, ("same", ("just", 0), of("b")))),
    ("(pick r (not (same 1 1)))", ("pick", R, ("not", TRUE))), ("(pick r (both (same 1 1) (not (same 1 1))))", ("pick", R, ("both", TRUE, ("not", TRUE)))),
    ("(pick r (either (not (same 1 1)) (same 1 1)))", ("pick", R, ("either", ("not", TRUE), TRUE))),
    ("(keep r)", ("keep", R, ())), ("(keep r a)", KEEP), ("(keep r b a c2)", ("keep", R, ("b", "a", "c2"))), ("(keep r a a)", ("keep", R, ("a", "a"))),
    ("(call r)", ("call", R, ())), ("(call r x y)", ("call", R, ("x", "y"))), ("(call r x x)", ("call", R, ("x", "x"))),
    ("(join r s)", ("join", R, S)), ("(pour r s)", ("pour", R, S)), ("(leave r s)", ("leave", R, S)),
    ("(total r a)", ("total", R, "a", ())), ("(total r a b)", ("total", R, "a", ("b",))), ("(total r a a b)", ("total", R, "a", ("a", "b"))),
    ("(join (keep r a) (pour s (keep r a)))", ("join", KEEP, ("pour", S, KEEP))), ("(leave (leave r s) (leave s r))", ("leave", ("leave", R, S), ("leave", S, R))),
    # Words of the language as names.
    ("(keep keep keep)", ("keep", ("table", "keep"), ("keep",))), ("(join join join)", ("join", ("table", "join"), ("table", "join"))),
    ("(total total total total)", ("total", ("table", "total"), "total", ("total",))), ("(call table not)", ("call", ("table", "table"), ("not",))),
    ("(pick pick (same .same 'same))", ("pick", ("table", "pick"), ("same", of("same"), ("just", "same")))),
    ("(pick not (not (under .not 'under)))", ("pick", ("table", "not"), ("not", ("under", of("not"), ("just", "under"))))),
    (f"(pick r (same .{FORTY} '{FORTY}))", ("pick", R, ("same", of(FORTY), ("just", FORTY)))), (f"(pick r (same {LONGEST} -{SIXTY}))", ("pick", R, ("same", ("just", LONGEST), ("just", -SIXTY)))),
]
NO_ASKINGS = [
    "", " ", "()", "( )", "(())", "(", ")", ")(", "(()", "())", "r)", "(r", "(r)", "((r))", "r s", "r (keep r)", "(keep r) s", "(keep r)(keep r)", "(keep r))", "((keep r)",
    "((keep r a))", "(join r s", "join r s)", "R", "1", "'r", ".r", "r.", "r_", "1r", FORTY + "a", "(table r)", "(some r)", "(Keep r)", "(keep)", "(call)", "(total)", "(total r)",
    "(join r)", "(join)", "(join r s r)", "(pour r)", "(pour r s r)", "(leave r)", "(leave r s r)", "(pick r)", "(pick)", "(pick r (same 1 1) (same 1 1))", "(pick r s)",
    "(pick r ())", "(pick r 1)", "(pick r .a)", "(pick (same 1 1) r)", "(pick r (keep r))", "(keep (same 1 1))", "(keep r A)", "(keep r 1)", "(keep r .a)", "(keep r 'a)", "(keep r (a))",
    "(keep r (keep r))", "(keep r a ())", "(keep () a)", "(keep 'r a)", "(call r A)", "(call r .x)", "(total r A)", "(total r .a)", "(total r 1 a)", "(total r a B)", "(total r (a) b)",
    "(pick r (same))", "(pick r (same .a))", "(pick r (same .a .b .c))", "(pick r (under .a))", "(pick r (under .a .b .c))", "(pick r (not))", "(pick r (not (same 1 1) (same 1 1)))",
    "(pick r (both (same 1 1)))", "(pick r (both (same 1 1) (same 1 1) (same 1 1)))", "(pick r (either (same 1 1)))", "(pick r (either (same 1 1) (same 1 1) (same 1 1)))", "(pick r (not r))",
    "(pick r (not .a))", "(pick r (both .a .b))", "(pick r (either 1 2))", "(pick r (same (same 1 1) (same 1 1)))", "(pick r (same a b))", "(pick r (same .a b))", "(pick r (same .A 1))",
    "(pick r (same . 1))", "(pick r (same ' 1))", "(pick r (same .1 1))", "(pick r (same ..a 1))", "(pick r (same -0 1))", "(pick r (same 01 1))", "(pick r (same 1 - 1))", "(pick r (same 1 +1))",
    "(pick r (same .a.b))", "(pick r (same .a'b))", "(pick r (same '.a 1))", "(pick r (same .'a 1))", f"(pick r (same {'9' * 61} 1))", f"(pick r (same 1 -{'9' * 61}))", "(pick r (same . a 1))",
    "(pick r (same ' a 1))", "(pick r (some .a .b))", "(pick r ((same) .a .b))", "(pick r (() .a .b))", "((keep) r a)", "(() r a)", "(keep r,a)", "(keep r, a)", "[keep r a]", "{keep r a}",
    "(join\tr s)", "(join r\ts)", "(join r s)\n", "\n(join r s)", "(join r\ns)", "(join r s\t)", "\tr", "r\n", "r\r", "(keep r \n)", "(keep r a\n)", "(pick r (same .a\n.b))", "(pick r (same\t.a .b))",
    "(keep r\u00a0a)", "(keep \u00e4)", "\u00e4", "keep r a", "pick r (same 1 1)", "(pickr (same 1 1))", "(joinr s)", "(join rs)", "(notr)", "(pick r (not(not)))", "(pick r (notsame 1 1))",
]


class Asking(Exact):
    def test_written_and_read(self):
        for text, asking in WRITTEN:
            with self.subTest(text=text):
                self.same(show(asking), text)
                self.same(read(text), asking)

    def test_what_writes_none(self):
        for text in NO_ASKINGS:
            with self.subTest(text=text):
                self.refuses(NoText, read, text)

    def test_things_that_are_no_texts(self):
        for thing in NO_NOTES + [0, 1, True, None, R, ("keep", R, ("a",)), ["r"], ("r",), b"r", b"(keep r)", 1.5]:
            if not isinstance(thing, str):
                self.refuses(NoText, read, thing)

    def signs(self, text):
        return text.replace("(", " ( ").replace(")", " ) ").split()

    def test_blanks_at_every_place(self):
        for text, asking in WRITTEN:
            signs = self.signs(text)
            for blanks in [" ", "   ", " " * 20]:
                self.same(read(blanks + blanks.join(signs) + blanks), asking)
            for at in range(len(signs) + 1):
                spread = " ".join(signs[:at]) + "    " + " ".join(signs[at:])
                self.same(read(spread), asking)
            tight = ""
            for sign in signs:
                tight += " " + sign if tight and tight[-1] not in "()" and sign not in "()" else sign
            self.same(read(tight), asking)

    def test_no_other_blank_at_any_place(self):
        for text, asking in WRITTEN:
            signs = self.signs(text)
            for other in ["\t", "\n", "\r", "\v", "\f", "\u00a0", "\u2003"]:
                for at in range(len(signs) + 1):
                    self.refuses(NoText, read, " ".join(signs[:at]) + other + " ".join(signs[at:]))
                    self.refuses(NoText, read, " ".join(signs[:at]) + " " + other + " " + " ".join(signs[at:]))

    def test_brackets_too_few_and_too_many(self):
        for text, asking in WRITTEN:
            signs = self.signs(text)
            for at in range(len(signs) + 1):
                if at < len(signs) and signs[at] in "()":
                    self.refuses(NoText, read, " ".join(signs[:at] + signs[at + 1:]))
                for sign in "()":
                    self.refuses(NoText, read, " ".join(signs[:at] + [sign] + signs[at:]))
                self.refuses(NoText, read, " ".join(signs[:at] + ["(", ")"] + signs[at:]))

    def test_things_too_few_and_too_many(self):
        for text, asking in WRITTEN:
            signs = self.signs(text)
            for at in range(len(signs)):
                # A name more or less may stand behind keep, call and total.
                if signs[at] not in "()" and signs[:2] in [["(", word] for word in ["pick", "join", "pour", "leave"]] and "keep" not in signs and "total" not in signs:
                    self.refuses(NoText, read, " ".join(signs[:at] + signs[at + 1:]))
                    self.refuses(NoText, read, " ".join(signs[:at] + signs[at:at + 1] + signs[at:]))


class Deep(Exact):
    def test_thirty_brackets_open(self):
        for opened, closed in [("(keep ", " a)"), ("(join r ", ")"), ("(pour ", " r)"), ("(leave r ", ")"), ("(total ", " a a)"), ("(call ", ")")]:
            text = opened * 30 + "r" + closed * 30
            self.assertEqual(show(read(text)), text)
            self.refuses(NoText, read, opened * 31 + "r" + closed * 31)
        text = "(pick r " + "(not " * 28 + "(same 1 1)" + ")" * 29
        self.assertEqual(show(read(text)), text)
        self.refuses(NoText, read, "(pick r " + "(not " * 29 + "(same 1 1)" + ")" * 30)

    def test_open_at_once_not_in_all(self):
        text = "(join " * 29 + "(keep r)" + " (keep r))" * 29
        self.assertEqual(text.count("("), 59)
        self.assertEqual(show(read(text)), text)
        many = "(join (keep r) (keep r))"
        for _ in range(6):
            many = f"(join {many} {many})"
        self.assertEqual(show(read(many)), many)

    def test_many_more(self):
        for text in ["(" * 31, "(" * 5000, "(" * 10000, ")" * 10000, "()" * 5000, "(" * 5000 + ")" * 5000, "(keep " * 1600, "(keep r " * 30, "(" * 30 + ")" * 30, "(not " * 2000]:
            self.refuses(NoText, read, text)

    def test_ten_thousand_signs(self):
        self.same(read(" " * 9999 + "r"), R)
        self.same(read("(keep r" + " a" * 4990 + ")"), ("keep", R, ("a",) * 4990))
        self.refuses(NoText, read, "a" * 10000)

    def test_shown_deeper_than_it_is_read(self):
        asking = R
        for _ in range(60):
            asking = ("keep", asking, ())
        self.assertEqual(show(asking), "(keep " * 60 + "r" + ")" * 60)
        self.refuses(NoText, read, show(asking))


class BySeeds(Exact):
    def test_what_is_shown_is_read_to_the_same(self):
        for seed in range(300):
            chance = Chance(seed, values=(-LONGEST, -1, 0, 7, SIXTY, "x", "same", FORTY))
            asking = chance.asking(4)
            text = show(asking)
            self.same(read(text), asking)
            self.assertEqual(text, " ".join(text.split()))

    def test_a_sign_less(self):
        """A text with a sign taken out is refused or read to what is shown otherwise."""
        for seed in range(40):
            text = show(Chance(seed).asking(3))
            for at in range(len(text)):
                less = text[:at] + text[at + 1:]
                try:
                    asking = read(less)
                except NoText:
                    continue
                self.assertEqual(show(asking).replace(" ", ""), less.replace(" ", ""))


class Told(Exact):
    def test_ordinary(self):
        some = table(Counts(), ("who", "age"), [(("bob", 4), 1), (("ann", 3), 2)])
        self.same(told(Counts(), some), "'ann 3 : 2; 'bob 4 : 1")
        self.same(told(Counts(), table(Counts(), (), [((), 2)])), ": 2")
        self.same(told(Counts(), table(Counts(), ("a",), [((-5,), 2)])), "-5 : 2")

    def test_no_rows(self):
        for columns in [(), ("a",), ("a", "b")]:
            for word, kind, notes in all_notes():
                self.same(told(kind, (columns, ())), "none")

    def test_each_kind(self):
        for word, kind, notes in all_notes():
            some = table(kind, ("a", "b"), [((at, "x"), note) for at, note in enumerate(notes)])
            asked = "; ".join(f"{row[0]} 'x : {kind.shown(note)}" for row, note in some[1])
            self.same(told(kind, some), asked)

    def test_by_hand(self):
        for kind, note, asked in [
            (Truth(), True, "1 'a : yes"), (Costs(), -3, "1 'a : -3"), (Sure(), (1, 2), "1 'a : 1/2"), (Voices(), (), "1 'a : nobody"), (Voices(), ("p", "q"), "1 'a : p+q"),
            (Least(), ((),), "1 'a : 1"), (Wheel(7), 6, "1 'a : 6"), (Pair(Counts(), Costs()), (0, None), None), (Pair(Counts(), Costs()), (2, None), "1 'a : [2, never]"),
            (Heaps(Counts()), ((-2, 3), (15, 1)), "1 'a : {-2: 3, 15: 1}"), (Reasons(), ((("e", "f"), (fact("g"),), 2),), "1 'a : 2*e*f*!(g)"),
            (Counts(), 10 ** 3999, "1 'a : 1" + "0" * 3999), (Counts(), LONGEST, "1 'a : " + "9" * 60),
        ]:
            self.same(told(kind, table(kind, ("a", "b"), [((1, "a"), note)])), "none" if asked is None else asked)

    def test_by_rank(self):
        some = table(Counts(), ("a",), [((value,), 1) for value in ["b", 10, "a", -1, 9, "a10", "a9"]])
        self.same(told(Counts(), some), "-1 : 1; 9 : 1; 10 : 1; 'a : 1; 'a10 : 1; 'a9 : 1; 'b : 1")


STORE = {
    "r": table(Counts(), ("a", "b"), [((1, "x"), 2), ((1, "y"), 3), ((2, "x"), 5)]), "s": table(Counts(), ("b", "c"), [(("x", 4), 7), (("y", 4), 10)]),
}


class Answer(Exact):
    def told(self, text, asked):
        with self.subTest(text=text):
            self.same(answer(Counts(), text, STORE), asked)

    def test_answers(self):
        self.told("r", "1 'x : 2; 1 'y : 3; 2 'x : 5")
        self.told(" ( keep r b ) ", "'x : 7; 'y : 3")
        self.told("(keep r)", ": 10")
        self.told("(total(join r s)c a)", "1 : 176; 2 : 140")
        self.told("(pick r (same .b 'z))", "none")
        self.told("(leave r (keep (pick s (under 'x .b)) b))", "1 'x : 2; 2 'x : 5")
        self.told("(call (keep r a) z)", "1 : 5; 2 : 5")
        store = named({"r": (("a",), (((1,), "e"), ((1,), "f"))), "s": (("a",), (((1,), "g"),))})
        self.same(answer(Reasons(), "(leave (pour r r) s)", store), "1 : 2*e*!(g) + 2*f*!(g)")

    def test_that_of_the_asking_that_is_read(self):
        for seed in range(60):
            chance = Chance(seed)
            hoard, asking = chance.hoard(), chance.asking(3)
            store = stocked(Counts(), hoard, {"e": 1, "f": 2})
            self.same(answer(Counts(), show(asking), store), told(Counts(), ask(Counts(), asking, store)))

    def test_no_text_ahead_of_all_else(self):
        for text in NO_ASKINGS:
            self.refuses(NoText, answer, Counts(), text, STORE)
            self.refuses(NoText, answer, Counts(), text, {})
        for text in ["(join none (keep r A))", "(keep none", "(join (keep r a a) (join r))", "(pour r (pick s (same .z 00)))"]:
            self.refuses(NoText, answer, Counts(), text, STORE)
        for thing in [None, 1, b"r", R, ["r"]]:
            self.refuses(NoText, answer, Counts(), thing, STORE)

    def test_refused(self):
        for error, text in [
            (NoTable, "none"), (NoTable, "(keep none z)"), (NoColumn, "(keep r z)"), (Twice, "(keep r a a)"), (Unlike, "(call r x)"), (Unlike, "(pour r s)"), (Unlike, "(leave r s)"),
            (NoColumn, "(pick r (same .z 1))"), (NoColumn, "(total r z)"), (NoColumn, "(total r z a a)"), (Twice, "(total r a b b)"), (Twice, "(call r x x)"),
        ]:
            self.refuses(error, answer, Counts(), text, STORE)
        empty = {name: (columns, ()) for name, columns in SHAPES.items()}
        for error, asking in REFUSALS:
            self.refuses(error, answer, Counts(), show(asking), empty)

    def test_nothing_is_changed(self):
        store = copy.deepcopy(STORE)
        answer(Counts(), "(total (join r s) c a)", store)
        self.same(store, STORE)


if __name__ == "__main__":
    unittest.main()
