"""Points 24 and 25: the columns of askings, what is refused, and which askings are plain."""

import copy
import itertools
import unittest

from samples import NONE, N, R, REFUSALS, S, SHAPES, T, TRUE, U, W, Exact, of

from whencewise.askings import columns_of, plain
from whencewise.errors import NoColumn, NoTable, Twice, Unlike

# Each is refused with one error.
NO_TABLE = NONE
NO_COLUMN = ("keep", R, ("z",))
TWICE = ("keep", R, ("a", "a"))
UNLIKE = ("pour", R, S)
BAD = [(NO_TABLE, NoTable), (NO_COLUMN, NoColumn), (TWICE, Twice), (UNLIKE, Unlike)]


class Columns(Exact):
    def told(self, asking, asked):
        with self.subTest(asking=asking):
            self.same(columns_of(asking, SHAPES), asked)

    def test_table(self):
        for name in SHAPES:
            self.told(("table", name), SHAPES[name])

    def test_pick(self):
        self.told(("pick", R, ("same", of("a"), of("b"))), ("a", "b"))
        self.told(("pick", U, ("not", ("under", of("a"), ("just", 3)))), ("b", "a"))
        self.told(("pick", N, TRUE), ())
        self.told(("pick", R, ("same", ("just", "z"), of("b"))), ("a", "b"))

    def test_keep(self):
        self.told(("keep", W, ("a",)), ("a",))
        self.told(("keep", W, ("c", "a")), ("c", "a"))
        self.told(("keep", W, ("c", "b", "a")), ("c", "b", "a"))
        self.told(("keep", W, ()), ())
        self.told(("keep", N, ()), ())

    def test_call(self):
        self.told(("call", R, ("x", "y")), ("x", "y"))
        self.told(("call", R, ("b", "a")), ("b", "a"))
        self.told(("call", R, ("a", "b")), ("a", "b"))
        self.told(("call", N, ()), ())

    def test_join(self):
        self.told(("join", R, S), ("a", "b", "c"))
        self.told(("join", S, R), ("b", "c", "a"))
        self.told(("join", R, T), ("a", "b", "c", "d"))
        self.told(("join", R, U), ("a", "b"))
        self.told(("join", U, R), ("b", "a"))
        self.told(("join", R, N), ("a", "b"))
        self.told(("join", N, R), ("a", "b"))
        self.told(("join", R, R), ("a", "b"))
        self.told(("join", T, W), ("c", "d", "a", "b"))

    def test_pour(self):
        self.told(("pour", R, R), ("a", "b"))
        self.told(("pour", N, N), ())
        self.told(("pour", R, ("keep", U, ("a", "b"))), ("a", "b"))

    def test_total(self):
        self.told(("total", W, "a", ("b",)), ("b",))
        self.told(("total", W, "a", ("c", "a")), ("c", "a"))
        self.told(("total", W, "c", ()), ())
        self.told(("total", W, "b", ("b",)), ("b",))

    def test_leave(self):
        self.told(("leave", W, R), ("a", "b", "c"))
        self.told(("leave", W, U), ("a", "b", "c"))
        self.told(("leave", R, U), ("a", "b"))
        self.told(("leave", R, N), ("a", "b"))
        self.told(("leave", N, N), ())
        self.told(("leave", W, S), ("a", "b", "c"))

    def test_within_one_another(self):
        joined = ("join", R, ("call", S, ("b", "e")))
        self.told(joined, ("a", "b", "e"))
        self.told(("keep", ("pick", joined, ("under", of("e"), of("a"))), ("e", "a")), ("e", "a"))
        self.told(("total", ("leave", joined, R), "e", ("b",)), ("b",))
        self.told(("pour", ("keep", joined, ("b",)), ("keep", ("call", T, ("a", "b")), ("b",))), ("b",))

    def test_thirty_deep(self):
        asking = R
        for at in range(60):
            asking = [("pick", asking, TRUE), ("keep", asking, ("a", "b")), ("join", asking, R)][at % 3]
        self.told(asking, ("a", "b"))

    def test_nothing_is_changed(self):
        shapes = copy.deepcopy(SHAPES)
        columns_of(("join", ("keep", W, ("c",)), R), shapes)
        self.same(shapes, SHAPES)


class Refused(Exact):
    def no(self, error, asking):
        with self.subTest(asking=asking):
            self.refuses(error, columns_of, asking, SHAPES)

    def test_each_refusal(self):
        for error, asking in REFUSALS:
            self.no(error, asking)

    def test_no_table(self):
        for asking in [
            NONE, ("pick", NONE, TRUE), ("keep", NONE, ()), ("call", NONE, ()), ("join", R, NONE), ("join", NONE, R), ("pour", R, NONE),
            ("total", NONE, "a", ()), ("leave", R, NONE), ("leave", NONE, R),
        ]:
            self.no(NoTable, asking)
        self.refuses(NoTable, columns_of, ("table", "a"), {})

    def test_no_column_of_a_test(self):
        for test in [
            ("same", of("z"), of("a")), ("same", of("a"), of("z")), ("under", of("c"), ("just", 1)), ("under", ("just", 1), of("c")),
            ("not", ("same", of("z"), ("just", 1))), ("both", TRUE, ("same", of("z"), ("just", 1))), ("both", ("same", of("z"), ("just", 1)), TRUE),
            ("either", TRUE, ("not", ("not", ("under", of("z"), of("z"))))),
        ]:
            self.no(NoColumn, ("pick", R, test))
        self.no(NoColumn, ("pick", N, ("same", of("a"), of("a"))))

    def test_keep(self):
        self.no(NoColumn, ("keep", R, ("z",)))
        self.no(NoColumn, ("keep", R, ("a", "c")))
        self.no(NoColumn, ("keep", N, ("a",)))
        self.no(Twice, ("keep", R, ("a", "a")))
        self.no(Twice, ("keep", R, ("a", "b", "a")))
        # At each of them in turn.
        self.no(Twice, ("keep", R, ("a", "a", "z")))
        self.no(NoColumn, ("keep", R, ("a", "z", "a")))
        self.no(NoColumn, ("keep", R, ("z", "z")))
        self.no(NoColumn, ("keep", R, ("z", "a", "a")))

    def test_total(self):
        self.no(NoColumn, ("total", R, "z", ()))
        self.no(NoColumn, ("total", R, "z", ("a",)))
        self.no(NoColumn, ("total", R, "a", ("z",)))
        self.no(NoColumn, ("total", R, "a", ("a", "z", "a")))
        self.no(NoColumn, ("total", N, "a", ()))
        self.no(Twice, ("total", R, "a", ("b", "b")))
        self.no(Twice, ("total", R, "a", ("a", "a", "z")))
        # COLUMN ahead of the others.
        self.no(NoColumn, ("total", R, "z", ("a", "a")))

    def test_call(self):
        self.no(Unlike, ("call", R, ("x",)))
        self.no(Unlike, ("call", R, ("x", "y", "z")))
        self.no(Unlike, ("call", R, ()))
        self.no(Unlike, ("call", N, ("x",)))
        self.no(Twice, ("call", R, ("x", "x")))
        self.no(Twice, ("call", W, ("x", "y", "x")))
        self.no(Unlike, ("call", R, ("x", "x", "x")))
        self.no(Unlike, ("call", W, ("x", "x")))

    def test_pour(self):
        self.no(Unlike, ("pour", R, S))
        self.no(Unlike, ("pour", R, U))
        self.no(Unlike, ("pour", R, W))
        self.no(Unlike, ("pour", W, R))
        self.no(Unlike, ("pour", R, N))
        self.no(Unlike, ("pour", N, R))

    def test_leave(self):
        self.no(Unlike, ("leave", R, S))
        self.no(Unlike, ("leave", R, W))
        self.no(Unlike, ("leave", N, R))
        self.no(Unlike, ("leave", W, T))

    def test_join_is_not_refused_by_itself(self):
        for one, other in itertools.product([R, S, T, U, N, W], repeat=2):
            self.assertIs(type(columns_of(("join", one, other), SHAPES)), tuple)

    def test_within_ahead_of_about(self):
        for bad, error in BAD:
            for about in [
                ("pick", bad, ("same", of("z"), of("z"))), ("keep", bad, ("z",)), ("keep", bad, ("a", "a")), ("call", bad, ()),
                ("call", bad, ("x", "x")), ("total", bad, "z", ("a", "a")), ("pour", bad, S), ("pour", S, bad), ("leave", bad, T), ("leave", N, bad),
                ("keep", ("keep", ("join", R, bad), ("q",)), ("q",)),
            ]:
                self.no(error, about)

    def test_one_ahead_of_other(self):
        for (bad, error), (worse, other) in itertools.product(BAD, BAD):
            for word in ["join", "pour", "leave"]:
                self.no(error, (word, bad, worse))
                self.no(error, (word, ("pick", ("join", R, bad), TRUE), worse))
                self.no(other, (word, R, worse))


class Plain(Exact):
    def test_each_of_the_eight(self):
        for asking, asked in [
            (R, True), (("pick", R, TRUE), True), (("keep", R, ()), True), (("call", R, ("x", "y")), True), (("join", R, S), True),
            (("pour", R, R), True), (("total", R, "a", ()), True), (("leave", R, R), False),
        ]:
            self.same(plain(asking), asked)

    def test_a_leave_within(self):
        for within, asked in [(R, True), (("leave", R, N), False), (("join", ("keep", ("leave", R, R), ("a",)), S), False), (("join", R, U), True)]:
            for about in [
                ("pick", within, TRUE), ("keep", within, ("a",)), ("call", within, ("x", "y")), ("join", within, S), ("join", S, within),
                ("pour", within, R), ("pour", R, within), ("total", within, "a", ("a",)),
            ]:
                with self.subTest(about=about):
                    self.same(plain(about), asked)
            self.same(plain(("leave", within, R)), False)
            self.same(plain(("leave", R, within)), False)

    def test_deep_within(self):
        for word in ["left", "right"]:
            plainly, leaving = R, ("leave", R, R)
            for at in range(40):
                if word == "left":
                    plainly, leaving = ("join", plainly, S), ("join", leaving, S)
                else:
                    plainly, leaving = ("pour", ("pick", R, TRUE), plainly), ("pour", ("pick", R, TRUE), leaving)
            self.same(plain(plainly), True)
            self.same(plain(leaving), False)

    def test_names_like_the_words(self):
        self.same(plain(("table", "leave")), True)
        self.same(plain(("keep", ("table", "leave"), ("leave",))), True)
        self.same(plain(("pick", ("table", "leave"), ("same", ("of", "leave"), ("just", "leave")))), True)
        self.same(columns_of(("join", ("table", "leave"), ("table", "table")), {"leave": ("join",), "table": ("pick",)}), ("join", "pick"))


if __name__ == "__main__":
    unittest.main()
