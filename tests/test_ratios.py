import random
import unittest
from fractions import Fraction

from alreadytold.errors import BadRatio
from alreadytold.ratios import (ONE, ZERO, compare, is_ratio, is_whole, make_ratio, minus, over, plus, ratio_text,
                                sum_of, times)
from samples import ODD_THINGS, ratio


class Ratios(unittest.TestCase):
    def refuse(self, what, *things):
        with self.assertRaises(BadRatio) as caught:
            make_ratio(*things)
        self.assertEqual(caught.exception.what, what)

    def test_constants(self):
        self.assertEqual((ZERO, ONE), ((0, 1), (1, 1)))

    def test_make_ratio(self):
        self.assertEqual(make_ratio(6, 4), (3, 2))
        self.assertEqual(make_ratio(6, -4), (-3, 2))
        self.assertEqual(make_ratio(-6, -4), (3, 2))
        self.assertEqual(make_ratio(0, -7), (0, 1))
        self.assertEqual(make_ratio(7), (7, 1))
        self.assertEqual(make_ratio(top=-4, bottom=8), (-1, 2))

    def test_make_ratio_refuses_top_ahead_of_bottom(self):
        for thing in [None, True, False, "1", 1.0, (1, 2), [1]]:
            self.refuse("top", thing)
            self.refuse("top", thing, 0)
            self.refuse("top", thing, thing)
            self.refuse("bottom", 1, thing)
        self.refuse("bottom", 1, 0)
        self.refuse("bottom", 0, 0)

    def test_is_whole(self):
        for thing in ODD_THINGS:
            self.assertIs(is_whole(thing), isinstance(thing, int) and not isinstance(thing, bool))
        self.assertTrue(is_whole(3, 3, 3))
        self.assertFalse(is_whole(2, 3))
        self.assertFalse(is_whole(4, None, 3))
        self.assertTrue(is_whole(-10 ** 99, None, 3))
        self.assertTrue(is_whole(10 ** 99, 3, None))
        self.assertFalse(is_whole(True, 0, 1))

    def test_is_ratio(self):
        for thing in [(0, 1), (1, 1), (-3, 2), (10 ** 99 + 1, 10 ** 99)]:
            self.assertIs(is_ratio(thing), True)
        for thing in [(0, 2), (2, 4), (1, 0), (1, -2), [1, 2], (True, 1), (1, True), (1,), (1, 2, 3), (1, "2"),
                      (1.0, 2), "12", (None, 1)]:
            self.assertIs(is_ratio(thing), False)
        for thing in ODD_THINGS:
            self.assertIs(is_ratio(thing), thing == (1, 2) and isinstance(thing, tuple))

    def test_against_fractions(self):
        rng = random.Random(1)
        numbers = [Fraction(rng.randint(-12, 12), rng.randint(1, 12)) for _ in range(40)] + [Fraction(0)]
        numbers += [Fraction(rng.randint(-10 ** 99, 10 ** 99), rng.randint(1, 10 ** 99)) for _ in range(4)]
        for one in numbers:
            for other in numbers:
                pair = ratio(one), ratio(other)
                self.assertEqual(plus(*pair), ratio(one + other))
                self.assertEqual(minus(*pair), ratio(one - other))
                self.assertEqual(times(*pair), ratio(one * other))
                self.assertEqual(compare(*pair), (one > other) - (one < other))
                if other:
                    self.assertEqual(over(*pair), ratio(one / other))
        self.assertEqual(sum_of([ratio(number) for number in numbers]), ratio(sum(numbers)))
        self.assertEqual(sum_of(tuple(ratio(number) for number in numbers)), ratio(sum(numbers)))

    def test_sum_of_nothing(self):
        self.assertEqual(sum_of([]), (0, 1))
        self.assertEqual(sum_of(()), (0, 1))

    def test_over_zero(self):
        with self.assertRaises(BadRatio) as caught:
            over((1, 2), (0, 1))
        self.assertEqual(caught.exception.what, "zero")

    def test_text(self):
        self.assertEqual([ratio_text(one) for one in [(0, 1), (1, 1), (-3, 1), (1, 2), (-7, 3)]],
                         ["0", "1", "-3", "1/2", "-7/3"])


if __name__ == "__main__":
    unittest.main()
