import unittest

from alreadytold.counts import Counts
from alreadytold.errors import BadCounts, NoFilling
from samples import ODD_THINGS, fillings

X, Y, A = ("x", 2), ("y", 3), ("a", 2)
ROWS = [((0, 0), (0, 1), 2), ((0, 0), (1, 0), 1), ((1, 0), (0, 0), 10 ** 99), ((1, 1), (1, 1), 1)]


class Refusals(unittest.TestCase):
    def refuse(self, index, what, *things):
        with self.assertRaises(BadCounts) as caught:
            Counts(*things)
        self.assertEqual((caught.exception.index, caught.exception.what), (index, what), things)

    def test_ins(self):
        many = [(first + second, 2) for first in "abcd" for second in "abcde"]
        for ins in [None, "ab", {}, 3, [None], [X, X], [X, ("x", 3)], [("x", 5)], many[:17]]:
            self.refuse(0, "ins", ins, None, None, None)
        self.assertEqual(len(Counts(many[:16], many[16:20], [], []).ins), 16)

    def test_letters(self):
        for letters in [None, "a", [None], [A, A], [X], [("x", 3)], [A, X]]:
            self.refuse(0, "letters", [X], letters, None, None)

    def test_outs(self):
        for outs in [None, "a", [None], [X, X], [Y, ("y", 2)], [("x", 3)], [("a", 4)]]:
            self.refuse(0, "outs", [X], [A], outs, None)
        self.assertEqual(Counts([X], [A], [A, X, Y], []).outs, (A, X, Y))

    def test_rows(self):
        for rows in [None, "ab", {}, 3]:
            self.refuse(0, "rows", [X], [A], [Y], rows)

    def test_row(self):
        right = ((0, 0), (0, 1), 2)
        wrong = [None, (), ((0, 0), (0, 1)), ((0, 0), (0, 1), 2, 2), ((0,), (0, 1), 2), ((0, 0), (3, 1), 2),
                 ((0, 0), (0, 2), 2), ((0, 0), (0, 1), 0), ((0, 0), (0, 1), -1), ((0, 0), (0, 1), True),
                 ((0, 0), (0, 1), "2"), ("00", (0, 1), 2), ((0, 0), None, 2), ((True, 0), (0, 1), 2)]
        for row in wrong + ODD_THINGS:
            self.refuse(0, "row", [X], [A], [Y], [row, None])
            self.refuse(1, "row", [X], [A], [Y], [right, row])
        for row in [right, ((0, 0), (0, 1), 3), ((0, 0), (0, 0), 2)]:
            self.refuse(1, "row", [X], [A], [Y], [right, row, None])
        self.refuse(2, "row", [X], [A], [Y], [right, ((0, 1), (0, 0), 1), ((0, 0), (2, 1), 1)])

    def test_two_faults_at_once(self):
        self.refuse(0, "ins", [X, X], [X], [("x", 3)], None)
        self.refuse(0, "letters", [X], [X], [("x", 3)], None)
        self.refuse(0, "outs", [X], [A], [("x", 3)], None)


class Holding(unittest.TestCase):
    def test_attributes_are_tuples(self):
        for kind in (list, tuple):
            counts = Counts(kind([kind(X)]), kind([kind(A)]), kind([kind(X)]),
                            kind(kind([kind(told), kind(sent), number]) for told, sent, number in ROWS))
            self.assertEqual((counts.ins, counts.letters, counts.outs), ((X,), (A,), (X,)))
            self.assertEqual(counts.rows, tuple(ROWS))

    def test_no_wires(self):
        counts = Counts([], (), [], [((), (), 3)])
        self.assertEqual(counts.rows, (((), (), 3),))
        self.assertEqual(counts.number_at([], ()), 3)
        self.assertEqual(Counts([], [], [], []).number_at((), ()), 0)

    def test_what_is_changed_later(self):
        wire, told = ["x", 2], [0, 0]
        ins, rows = [wire], [[told, [0, 1], 2]]
        counts = Counts(ins, [A], [X], rows)
        wire[0] = "q"
        told[0] = 1
        rows[0][2] = 5
        rows.clear()
        ins.clear()
        self.assertEqual(counts, Counts([X], [A], [X], [((0, 0), (0, 1), 2)]))

    def test_number_at(self):
        counts = Counts([X], [A], [X], ROWS)
        table = {(told, sent): number for told, sent, number in ROWS}
        for told in fillings([2, 2]):
            for sent in fillings([2, 2]):
                self.assertEqual(counts.number_at(list(told), sent), table.get((told, sent), 0))

    def test_no_filling(self):
        counts = Counts([X], [A], [Y], [])
        for thing in ODD_THINGS + [(0,), (0, 2), (2, 0), (0, 0, 0), (True, 0)]:
            if thing != (1, 2) or isinstance(thing, list):
                with self.assertRaises(NoFilling) as caught:
                    counts.number_at(thing, None)
                self.assertIs(caught.exception.thing, thing)
        for thing in ODD_THINGS + [(0,), (0, 2), (3, 0), (0, 0, 0), (True, 0)]:
            with self.assertRaises(NoFilling) as caught:
                counts.number_at((0, 0), thing)
            self.assertIs(caught.exception.thing, thing)

    def test_equal(self):
        counts = Counts([X], [A], [X], ROWS)
        self.assertTrue(counts == Counts((X,), (A,), (X,), tuple(ROWS)))
        self.assertFalse(counts != Counts([X], [A], [X], ROWS))
        for other in [Counts([X], [A], [X], ROWS[:3]), Counts([("z", 2)], [A], [X], ROWS),
                      Counts([X], [("z", 2)], [X], ROWS), Counts([X], [A], [("z", 2)], ROWS), None, tuple(ROWS)]:
            self.assertFalse(counts == other)
            self.assertTrue(counts != other)


if __name__ == "__main__":
    unittest.main()
