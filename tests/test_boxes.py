import unittest

from alreadytold.boxes import Box
from alreadytold.errors import BadBox, NoFilling
from samples import ODD_THINGS, fillings

X = ("x", 2)
Y = ("y", 3)
Z = ("z", 2)
HALF = (1, 2)


class Refusals(unittest.TestCase):
    def refuse(self, index, what, *things):
        with self.assertRaises(BadBox) as caught:
            Box(*things)
        self.assertEqual((caught.exception.index, caught.exception.what), (index, what))

    def test_day(self):
        for day in [-1, 10, True, False, None, "1", 1.0, (1,), 10 ** 99]:
            self.refuse(0, "day", day, [], [Z], [(0,)])
        self.refuse(0, "day", None, None, None, None)

    def test_takes(self):
        for takes in [None, "ab", {}, 3, [X] * 7, object()]:
            self.refuse(0, "takes", 0, takes, None, None)
        self.refuse(0, "takes", 0, [None] * 7, [Z], [])

    def test_take(self):
        self.refuse(0, "take", 0, [None], None, None)
        self.refuse(1, "take", 0, [X, X], None, None)
        self.refuse(1, "take", 0, [X, ("x", 3)], [Z], [])
        self.refuse(2, "take", 0, [X, Y, ("a", 5), ("b", 9)], [Z], [])
        self.refuse(5, "take", 0, [(name, 4) for name in "abcde"] + [("f", True)], [Z], [])

    def test_fillings_of_takes(self):
        self.refuse(0, "fillings", 0, [(name, 4) for name in "abcde"], None, None)
        self.refuse(0, "fillings", 0, [("a", 4), ("b", 4), ("c", 4), ("d", 2), ("e", 3)], [Z], [])

    def test_makes(self):
        for makes in [None, [], (), "a", {}, [Z] * 7]:
            self.refuse(0, "makes", 0, [X], makes, None)

    def test_make(self):
        self.refuse(1, "make", 0, [X], [Z, Z], None)
        self.refuse(0, "make", 0, [X], [["z", 5], Z], None)
        self.refuse(1, "make", 0, [X, Y], [("a", 2), ("x", 3)], None)
        # The other size comes behind all other words of the makes.
        self.refuse(1, "make", 0, [X], [("x", 3), None], None)
        self.refuse(0, "make", 0, [X], [("x", 3), Z], None)

    def test_entries(self):
        for entries in [None, [], [(0,)], [(0,)] * 3, "ab", {0: (0,), 1: (0,)}]:
            self.refuse(0, "entries", 0, [X], [Z], entries)
        self.refuse(0, "entries", 0, [], [Z], [])
        self.refuse(0, "entries", 0, [X], [Z], [None])

    def test_entry(self):
        wrong = [(), [], (((0,),),), (2,), (0, 0), (-1,), (True,), None, "0", 0, {0: 1}, ((0,),), (((0,), HALF, 1),),
                 (((0,), (1, 1)), ((0,), (1, 1))), (((0,), HALF), ((0,), HALF)), (((2,), (1, 1)),),
                 (((0,), [1, 1]),), (((0,), 1),), (((0,), (2, 2)),), (((0,), (3, 2)),), (((0,), (2, 1)),),
                 (((0,), (0, 1)), ((1,), (1, 1))), (((0,), (-1, 2)), ((1,), (3, 2))), (0, ((0,), (1, 1))),
                 (((0,), HALF), None), (((0,), HALF), 0), ((0,), HALF), (((True,), (1, 1)),), (((0,), True),)]
        for thing in wrong:
            self.refuse(1, "entry", 0, [X], [Z], [(0,), thing])
            self.refuse(0, "entry", 0, [X], [Z], [thing, None])
        for thing in ODD_THINGS:
            if thing != (1,) and thing != [1]:
                self.refuse(0, "entry", 0, [X], [Z], [thing, (0,)])

    def test_eight_and_nine_couples(self):
        wires = [("a", 4), ("b", 4)]
        eight = [(row, (1, 8)) for row in fillings([4, 4])[:8]]
        nine = [(row, (1, 9)) for row in fillings([4, 4])[:9]]
        self.assertEqual(Box(0, [], wires, [eight]).entries, (tuple(eight),))
        self.refuse(0, "entry", 0, [], wires, [nine])

    def test_shares(self):
        for shares in [[HALF, (1, 3)], [HALF, (2, 3)], [(1, 10 ** 99), (10 ** 99 - 2, 10 ** 99 - 1)]]:
            entry = [((row,), share) for row, share in enumerate(shares)]
            self.refuse(1, "shares", 0, [X], [Z], [(0,), entry])
        self.refuse(0, "shares", 0, [X], [Z], [[((0,), HALF)], None])
        self.refuse(0, "entry", 0, [X], [Z], [None, [((0,), HALF)]])

    def test_two_faults_at_once(self):
        self.refuse(0, "takes", 0, None, [], [])
        self.refuse(0, "make", 0, [X], [None], [])
        self.refuse(0, "take", 0, [None] + [(name, 4) for name in "abcde"], [], [])


class Boxes(unittest.TestCase):
    def test_attributes_are_tuples(self):
        for kind in (list, tuple):
            box = Box(9, kind([kind(X), kind(Y)]), kind([kind(Z), kind(X)]), kind(
                [kind([0, 1])] * 5 + [kind([kind([kind([1, 0]), (1, 4)]), kind([kind([0, 1]), (3, 4)])])]))
            self.assertEqual(box.day, 9)
            self.assertEqual(box.takes, (X, Y))
            self.assertEqual(box.makes, (Z, X))
            self.assertEqual(box.take_sizes, (2, 3))
            self.assertEqual(box.make_sizes, (2, 2))
            self.assertEqual(box.entries, ((((0, 1), (1, 1)),),) * 5 + ((((0, 1), (3, 4)), ((1, 0), (1, 4))),))

    def test_a_sure_entry_is_one_couple_however_passed(self):
        box = Box(0, [], [Z], [(1,)])
        self.assertEqual(box, Box(0, (), (Z,), [[((1,), (1, 1))]]))
        self.assertEqual(box.entries, ((((1,), (1, 1)),),))

    def test_rows_in_any_order(self):
        one = Box(0, [], [Y], [[((2,), HALF), ((0,), (1, 3)), ((1,), (1, 6))]])
        self.assertEqual(one.entries, ((((0,), (1, 3)), ((1,), (1, 6)), ((2,), HALF)),))

    def test_256_fillings(self):
        takes = [(name, 4) for name in "abcd"]
        box = Box(0, takes, [("a", 4)], [(filling[0],) for filling in fillings([4] * 4)])
        self.assertEqual(len(box.entries), 256)
        self.assertEqual(box.made_by((3, 0, 1, 2)), (((3,), (1, 1)),))

    def test_what_is_changed_later(self):
        wire, row, takes, makes = ["x", 2], [1], [X], [Z]
        takes[0] = wire
        couple = [row, HALF]
        entries = [[couple, ((0,), HALF)], row]
        box = Box(0, takes, makes, entries)
        other = Box(0, [X], [Z], [[((1,), HALF), ((0,), HALF)], (1,)])
        wire[0] = "q"
        row[0] = 0
        couple[1] = (1, 3)
        takes.append(None)
        makes.clear()
        entries.clear()
        self.assertEqual(box, other)

    def test_is_sure(self):
        self.assertIs(Box(0, [X], [Z], [(0,), (1,)]).is_sure, True)
        self.assertIs(Box(0, [X], [Z], [(0,), [((1,), (1, 1))]]).is_sure, True)
        self.assertIs(Box(0, [X], [Z], [(0,), [((1,), HALF), ((0,), HALF)]]).is_sure, False)

    def test_made_by(self):
        box = Box(0, [X, Y], [Z], [(0,), (1,), (1,), (1,), (0,), [((1,), HALF), ((0,), HALF)]])
        self.assertEqual(box.made_by([1, 1]), (((0,), (1, 1)),))
        self.assertEqual(box.made_by((1, 2)), (((0,), HALF), ((1,), HALF)))
        for thing in [(2, 0), (0,), (0, 0, 0), None, (True, 0), "00"]:
            with self.assertRaises(NoFilling) as caught:
                box.made_by(thing)
            self.assertIs(caught.exception.thing, thing)

    def test_with_entry(self):
        box = Box(3, [X, Y], [Z], [(0,)] * 6)
        other = box.with_entry((1, 0), [[[1], HALF], [[0], HALF]])
        self.assertEqual(other, Box(3, [X, Y], [Z], [(0,)] * 3 + [[((0,), HALF), ((1,), HALF)]] + [(0,)] * 2))
        self.assertEqual(box, Box(3, [X, Y], [Z], [(0,)] * 6))
        with self.assertRaises(NoFilling) as caught:
            box.with_entry((0, 3), None)
        self.assertEqual(caught.exception.thing, (0, 3))
        for entry, what in [(None, "entry"), ((2,), "entry"), ([((0,), HALF)], "shares")]:
            with self.assertRaises(BadBox) as caught:
                box.with_entry([1, 1], entry)
            self.assertEqual((caught.exception.index, caught.exception.what), (4, what))

    def test_on_day(self):
        box = Box(3, [X], [Z], [(0,), (1,)])
        self.assertEqual(box.on_day(9), Box(9, [X], [Z], [(0,), (1,)]))
        self.assertEqual(box.day, 3)
        for day in [-1, 10, True, None]:
            with self.assertRaises(BadBox) as caught:
                box.on_day(day)
            self.assertEqual((caught.exception.index, caught.exception.what), (0, "day"))

    def test_equal(self):
        box = Box(0, [X], [Z], [(0,), (1,)])
        self.assertTrue(box == Box(0, ((X),), (Z,), ((0,), [1])))
        self.assertFalse(box != Box(0, [X], [Z], [(0,), (1,)]))
        for other in [Box(1, [X], [Z], [(0,), (1,)]), Box(0, [X], [Z], [(0,), (0,)]), Box(0, [X], [X], [(0,), (1,)]),
                      Box(0, [("y", 2)], [Z], [(0,), (1,)]), None, (0, (X,), (Z,))]:
            self.assertFalse(box == other)
            self.assertTrue(box != other)


if __name__ == "__main__":
    unittest.main()
