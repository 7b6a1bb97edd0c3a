"""Point 8, its sentences on shares."""

import copy
import math
import unittest

from whencewise.errors import NoNote
from whencewise.shares import share

GREAT = 10 ** 40 + 121
PRIME = 2 ** 127 - 1
NO_NUMBERS = [True, False, None, "", "1", "a", b"1", [], [1], (), (1,), (1, 2), {}, {1: 2}, {1}, object(), int, share]


class Lowest(unittest.TestCase):
    def assert_share(self, top, bottom, asked):
        told = share(top, bottom)
        self.assertEqual(told, asked)
        self.assertIs(type(told), tuple)
        self.assertEqual([type(part) for part in told], [int, int])

    def test_small_numbers(self):
        for top, bottom, asked in [
            (1, 2, (1, 2)), (2, 4, (1, 2)), (6, 8, (3, 4)), (10, 15, (2, 3)), (9, 12, (3, 4)), (12, 18, (2, 3)),
            (50, 100, (1, 2)), (1, 100, (1, 100)), (99, 100, (99, 100)), (36, 48, (3, 4)), (4, 6, (2, 3)),
        ]:
            with self.subTest(top=top, bottom=bottom):
                self.assert_share(top, bottom, asked)

    def test_all_small_shares(self):
        for bottom in range(1, 41):
            for top in range(0, bottom + 1):
                with self.subTest(top=top, bottom=bottom):
                    low, high = share(top, bottom)
                    self.assertEqual(low * bottom, top * high)
                    self.assertEqual(math.gcd(low, high), 1)
                    self.assertTrue(0 <= low <= high)
                    self.assertEqual(share(low, high), (low, high))

    def test_top_nought(self):
        for bottom in [1, 2, 7, 100, GREAT, 10 ** 59]:
            with self.subTest(bottom=bottom):
                self.assert_share(0, bottom, (0, 1))

    def test_top_and_bottom_alike(self):
        for bottom in [1, 2, 7, 100, GREAT, 10 ** 59]:
            with self.subTest(bottom=bottom):
                self.assert_share(bottom, bottom, (1, 1))

    def test_lowest_already(self):
        for top, bottom in [(0, 1), (1, 1), (1, 2), (2, 3), (3, 4), (8, 9), (35, 36), (1, GREAT), (GREAT - 1, GREAT)]:
            with self.subTest(top=top, bottom=bottom):
                self.assert_share(top, bottom, (top, bottom))

    def test_numbers_of_forty_figures(self):
        self.assert_share(3 * PRIME, 7 * PRIME, (3, 7))
        self.assert_share(PRIME, 2 * PRIME, (1, 2))
        self.assert_share(PRIME, 10 ** 40, (PRIME, 10 ** 40))
        self.assert_share(2 * 10 ** 39, 6 * 10 ** 39, (1, 3))
        self.assert_share(10 ** 20 * 3, 10 ** 40, (3, 10 ** 20))
        self.assert_share((10 ** 20 + 39) * 6, (10 ** 20 + 39) * 10 ** 20, (3, 5 * 10 ** 19))
        # Two numbers of the Fibonacci row take the most divisions.
        one, other = 1, 1
        while other < 10 ** 59:
            one, other = other, one + other
        self.assert_share(one * 6, other * 6, (one, other))

    def test_numbers_of_sixty_figures(self):
        self.assert_share(10 ** 59, 4 * 10 ** 59, (1, 4))
        self.assert_share(10 ** 60 - 2, 10 ** 60 - 1, (10 ** 60 - 2, 10 ** 60 - 1))


class Refused(unittest.TestCase):
    def refuses(self, top, bottom):
        with self.subTest(top=repr(top)[:80], bottom=repr(bottom)[:80]):
            with self.assertRaises(NoNote):
                share(top, bottom)

    def test_top_below_nought(self):
        for top, bottom in [(-1, 1), (-1, 2), (-2, 4), (-5, 5), (-GREAT, GREAT), (-1, GREAT)]:
            self.refuses(top, bottom)

    def test_top_above_bottom(self):
        for top, bottom in [(2, 1), (3, 2), (4, 2), (5, 4), (GREAT + 1, GREAT), (GREAT, 1)]:
            self.refuses(top, bottom)

    def test_bottom_nought_or_below(self):
        for top, bottom in [(0, 0), (1, 0), (-1, 0), (0, -1), (1, -1), (1, -2), (0, -GREAT)]:
            self.refuses(top, bottom)

    def test_both_below_nought(self):
        for top, bottom in [(-1, -1), (-1, -2), (-2, -1), (-2, -4), (-GREAT, -GREAT), (-1, -GREAT)]:
            self.refuses(top, bottom)

    def test_no_whole_number_as_top(self):
        for top in NO_NUMBERS:
            for bottom in [1, 2, 0, -1, GREAT]:
                self.refuses(top, bottom)

    def test_no_whole_number_as_bottom(self):
        for bottom in NO_NUMBERS:
            for top in [0, 1, -1, GREAT]:
                self.refuses(top, bottom)

    def test_no_whole_number_as_both(self):
        for top in NO_NUMBERS:
            for bottom in NO_NUMBERS:
                self.refuses(top, bottom)

    def test_numbers_too_long_for_python_to_write(self):
        for top, bottom in [(10 ** 5000, 1), (-10 ** 5000, 1), (0, -10 ** 5000), ("a", 10 ** 5000), (10 ** 5000, None)]:
            with self.assertRaises(NoNote):
                share(top, bottom)

    def test_nothing_is_changed(self):
        for thing in [[1], [1, 2], {1: 2}, {"a": [1]}, ([1],)]:
            before = copy.deepcopy(thing)
            self.refuses(thing, 2)
            self.refuses(1, thing)
            self.refuses(thing, thing)
            self.assertEqual(thing, before)


if __name__ == "__main__":
    unittest.main()
