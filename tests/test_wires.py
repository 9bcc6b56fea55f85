import unittest

from alreadytold.errors import NoFilling
from alreadytold.wires import (count_fillings, filling_by_number, filling_number, fillings_of, is_filling, is_name,
                               is_wire)
from samples import ODD_THINGS, fillings

SIZES = [(), [], (2,), [3, 2], (1, 4, 1), (2, 3, 4), [1], (10, 3)]


class Wires(unittest.TestCase):
    def test_names(self):
        for thing in ["a", "z", "abcdefgh", "ins"]:
            self.assertIs(is_name(thing), True)
        for thing in ["", "abcdefghi", "A", "a1", "a b", "a:", " a", "a\n", "{", "`", b"a", ["a"], None, 1, True, ("a",)]:
            self.assertIs(is_name(thing), False)
        for thing in ODD_THINGS:
            self.assertIs(is_name(thing), isinstance(thing, str) and thing in ("a", "ab"))

    def test_wires(self):
        for thing in [("a", 2), ["b", 3], ("abcdefgh", 4)]:
            self.assertIs(is_wire(thing), True)
        for thing in [("a", 1), ("a", 5), ("a", True), ("a", "2"), ("a",), ("a", 2, 2), ("A", 2), (2, "a"), "a2", None,
                      {"a": 2}, ("a", None), ("a", 2.0)]:
            self.assertIs(is_wire(thing), False)
        for thing in ODD_THINGS:
            self.assertIs(is_wire(thing), thing in (("a", 2), ["a", 2]))

    def test_fillings_ascend(self):
        for sizes in SIZES:
            self.assertEqual(list(fillings_of(sizes)), fillings(sizes))
            self.assertEqual(count_fillings(sizes), len(fillings(sizes)))
        self.assertEqual(list(fillings_of([])), [()])
        self.assertEqual(list(fillings_of((2, 2))), [(0, 0), (0, 1), (1, 0), (1, 1)])

    def test_fillings_of_is_a_generator(self):
        steps = fillings_of((4,) * 8)
        self.assertEqual(next(steps), (0,) * 8)
        self.assertEqual(next(steps), (0,) * 7 + (1,))

    def test_numbers_both_ways(self):
        for sizes in SIZES:
            for number, filling in enumerate(fillings(sizes)):
                self.assertEqual(filling_number(sizes, filling), number)
                self.assertEqual(filling_number(sizes, list(filling)), number)
                self.assertEqual(filling_by_number(sizes, number), filling)

    def test_no_filling(self):
        for sizes in SIZES:
            things = ODD_THINGS + [tuple(sizes), [0] * (len(sizes) + 1), [-1] * max(1, len(sizes))]
            for thing in things:
                right = isinstance(thing, (list, tuple)) and tuple(thing) in fillings(sizes) and not any(
                    isinstance(worth, bool) for worth in thing)
                self.assertIs(is_filling(sizes, thing), right)
                if not right:
                    with self.assertRaises(NoFilling) as caught:
                        filling_number(sizes, thing)
                    self.assertIs(caught.exception.thing, thing)
        self.assertFalse(is_filling((2, 2), (True, 0)))
        self.assertFalse(is_filling((2, 2), (0, 1.0)))
        self.assertFalse(is_filling((), None))

    def test_no_number(self):
        for sizes in SIZES:
            for thing in [-1, len(fillings(sizes)), None, True, False, "0", (0,), [0], 0.0, 10 ** 99]:
                with self.assertRaises(NoFilling) as caught:
                    filling_by_number(sizes, thing)
                self.assertIs(caught.exception.thing, thing)

    def test_many_fillings(self):
        self.assertEqual(count_fillings((10,) * 5), 100000)
        self.assertEqual(filling_by_number((10,) * 5, 31415), (3, 1, 4, 1, 5))
        self.assertEqual(len(list(fillings_of((10,) * 5))), 100000)


if __name__ == "__main__":
    unittest.main()
