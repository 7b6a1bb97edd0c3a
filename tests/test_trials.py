"""Point 23: parts and tests."""

import copy
import itertools
import unittest

from samples import LONGEST, SIXTY, Exact

from whencewise.trials import called, columns_in, passes

COLUMNS = ("x", "y", "z")
X, Y, Z = ("of", "x"), ("of", "y"), ("of", "z")
# In the order of their rank.
VALUES = [-LONGEST, -2, -1, 0, 1, 2, 10, SIXTY, "", "-1", "0", "1", "10", "2", "A", "a", "ab", "b"]
YES, NO = ("same", ("just", 1), ("just", 1)), ("same", ("just", 1), ("just", 2))


class Passes(Exact):
    def test_same(self):
        for one, other in itertools.product(VALUES, VALUES):
            asked = type(one) is type(other) and one == other
            self.same(passes(("same", X, Y), COLUMNS, (one, other, 0)), asked)
            self.same(passes(("same", Y, X), COLUMNS, (one, other, 0)), asked)
            self.same(passes(("same", X, ("just", other)), COLUMNS, (one, 0, 0)), asked)
            self.same(passes(("same", ("just", one), Z), COLUMNS, (0, 0, other)), asked)
            self.same(passes(("same", ("just", one), ("just", other)), COLUMNS, (0, 0, 0)), asked)

    def test_under(self):
        for (at, one), (beside, other) in itertools.product(enumerate(VALUES), enumerate(VALUES)):
            asked = at < beside
            self.same(passes(("under", X, Y), COLUMNS, (one, other, 0)), asked)
            self.same(passes(("under", Z, ("just", other)), COLUMNS, (0, 0, one)), asked)
            self.same(passes(("under", ("just", one), Y), COLUMNS, (0, other, 0)), asked)
            self.same(passes(("under", ("just", one), ("just", other)), (), ()), asked)

    def test_not_both_either(self):
        self.same(passes(YES, (), ()), True)
        self.same(passes(NO, (), ()), False)
        self.same(passes(("not", YES), (), ()), False)
        self.same(passes(("not", NO), (), ()), True)
        self.same(passes(("not", ("not", YES)), (), ()), True)
        for one, other in itertools.product([YES, NO], [YES, NO]):
            self.same(passes(("both", one, other), (), ()), one == YES and other == YES)
            self.same(passes(("either", one, other), (), ()), one == YES or other == YES)

    def test_within_one_another(self):
        test = ("either", ("both", ("under", X, ("just", 5)), ("not", ("same", Y, ("just", "a")))), ("same", Z, X))
        for row, asked in [
            ((4, "b", 0), True), ((4, "a", 0), False), ((5, "b", 0), False), ((5, "b", 5), True), ((4, "a", 4), True), (("a", "b", "a"), True),
            (("a", "b", "c"), False), ((-9, 0, 0), True),
        ]:
            self.same(passes(test, COLUMNS, row), asked)

    def test_the_value_is_that_of_its_column(self):
        for columns in itertools.permutations(COLUMNS):
            row = tuple([{"x": 1, "y": 2, "z": 3}[column] for column in columns])
            self.same(passes(("same", X, ("just", 1)), columns, row), True)
            self.same(passes(("under", Y, Z), columns, row), True)
            self.same(passes(("under", Z, Y), columns, row), False)

    def test_a_text_that_is_called_like_a_column(self):
        self.same(passes(("same", ("just", "x"), X), COLUMNS, ("x", 1, 2)), True)
        self.same(passes(("same", ("just", "x"), X), COLUMNS, (1, 1, 2)), False)
        self.same(passes(("same", ("just", "of"), ("just", "just")), (), ()), False)

    def test_thirty_deep(self):
        test = ("same", X, ("just", 1))
        for depth in range(60):
            self.same(passes(test, ("x",), (1,)), depth % 2 == 0)
            self.same(passes(test, ("x",), (2,)), depth % 2 == 1)
            test = ("not", test)


class ColumnsIn(Exact):
    def test_columns_in(self):
        for test, asked in [
            (("same", X, Y), ["x", "y"]), (("same", Y, X), ["y", "x"]), (("under", X, X), ["x", "x"]), (("under", X, ("just", 1)), ["x"]),
            (("same", ("just", "x"), Y), ["y"]), (YES, []), (("same", ("just", "of"), ("just", "x")), []), (("not", ("under", Z, X)), ["z", "x"]),
            (("both", ("same", Z, X), ("under", X, Y)), ["z", "x", "x", "y"]), (("either", ("same", Y, ("just", 1)), YES), ["y"]),
            (("either", ("not", ("both", YES, ("same", Z, Z))), ("both", ("under", X, Y), ("not", ("same", ("just", 2), X)))), ["z", "z", "x", "y", "x"]),
        ]:
            with self.subTest(test=test):
                self.same(columns_in(test), asked)

    def test_a_new_list(self):
        told = columns_in(("not", ("same", X, Y)))
        told.append("z")
        self.same(columns_in(("not", ("same", X, Y))), ["x", "y"])


class Called(Exact):
    names = {"x": "y", "y": "z", "z": "long", "just": "of"}

    def test_called(self):
        for test, asked in [
            (("same", X, Y), ("same", Y, Z)), (("under", Z, X), ("under", ("of", "long"), Y)), (("same", X, X), ("same", Y, Y)),
            (("same", ("just", "x"), X), ("same", ("just", "x"), Y)), (YES, YES), (("under", ("just", 3), ("just", "y")), ("under", ("just", 3), ("just", "y"))),
            (("not", ("same", X, ("just", 1))), ("not", ("same", Y, ("just", 1)))), (("same", ("of", "just"), X), ("same", ("of", "of"), Y)),
            (("both", ("same", X, Y), ("under", Y, Z)), ("both", ("same", Y, Z), ("under", Z, ("of", "long")))),
            (("either", ("not", ("same", Z, ("just", "z"))), YES), ("either", ("not", ("same", ("of", "long"), ("just", "z"))), YES)),
        ]:
            with self.subTest(test=test):
                self.same(called(test, self.names), asked)

    def test_called_as_before(self):
        test = ("either", ("both", ("under", X, Y), NO), ("not", ("same", Z, X)))
        self.same(called(test, {"x": "x", "y": "y", "z": "z"}), test)

    def test_nothing_is_changed(self):
        before = copy.deepcopy(self.names)
        called(("same", X, Y), self.names)
        self.same(self.names, before)


if __name__ == "__main__":
    unittest.main()
