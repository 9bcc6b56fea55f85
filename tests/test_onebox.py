import random
import unittest

from alreadytold.boxes import Box
from alreadytold.charts import Chart
from alreadytold.counts import Counts
from alreadytold.drawing import all_in
from alreadytold.errors import NoBox
from alreadytold.onebox import one_box, one_box_fault
from samples import fillings, identity_box, random_chart

X, A, B, C = ("x", 2), ("a", 2), ("b", 3), ("c", 2)


def fewest_letters(counts):
    """[3.7]: k."""
    sums = {}
    for told, _, number in counts.rows:
        sums[told] = sums.get(told, 0) + number
    tolds = fillings([size for _, size in counts.ins])
    greatest = max(sums.get(told, 0) for told in tolds)
    letters = 0
    while 4 ** letters < greatest:
        letters += 1
    return max(letters, 1) if any(told not in sums for told in tolds) else letters


class OneBox(unittest.TestCase):
    def right(self, counts, letters):
        chart = one_box(counts)
        self.assertEqual((len(chart.boxes), chart.is_sure), (1, True))
        self.assertEqual(all_in(chart), counts)
        self.assertEqual(len(chart.letters), letters)
        self.assertIsNone(one_box_fault(counts, chart))
        return chart

    def test_counts_of_charts(self):
        rng = random.Random(321)
        made = 0
        seen = set()
        while made < 60:
            counts = all_in(random_chart(rng, chance=0.4, wires=4))
            if any(wire in counts.ins for wire in counts.outs):
                continue
            letters = fewest_letters(counts)
            if letters > 3 or len(counts.outs) + letters == 0:
                continue
            made += 1
            seen.add(letters)
            self.right(counts, letters)
        self.assertGreaterEqual(len(seen), 3)

    def test_counts_that_no_chart_has(self):
        self.right(Counts([], [], [A], [((), (0,), 1)]), 0)
        self.right(Counts([X], [], [A], [((0,), (1,), 1), ((1,), (0,), 1)]), 0)
        self.right(Counts([X], [], [A], [((1,), (0,), 1)]), 1)
        self.right(Counts([X], [], [], []), 1)
        self.right(Counts([X], [], [], [((0,), (), 4)]), 1)
        self.right(Counts([X], [], [], [((0,), (), 5)]), 2)
        self.right(Counts([], [], [A, B], [((), (0, 2), 10), ((), (1, 0), 6)]), 2)
        self.right(Counts([], [], [A, B], [((), (0, 2), 10), ((), (1, 0), 7)]), 3)
        self.right(Counts([X], [], [A], [((0,), (0,), 60), ((0,), (1,), 4), ((1,), (1,), 64)]), 3)

    def test_bounds(self):
        two = [("p", 4), ("q", 4), ("r", 4)]
        outs = [("s", 4), ("t", 4), ("u", 4)]
        rows = [((0, 0, 0), (3, 3, 3), 4)]
        self.right(Counts(two, [], outs, rows), 1)
        ins = [(name, 2) for name in "pqrst"]
        self.right(Counts(ins, [], [A, B, C], [((0,) * 5, (0, 0, 0), 2)]), 1)
        six = [(name, 2) for name in "pqrstu"]
        full = [(told, (1, 1, 1, 1, 1, 1), 1) for told in fillings([2] * 6)]
        self.right(Counts(six, [], [(name, 2) for name in "abcdef"], full), 0)
        self.right(Counts([], [], [A, B, C], [((), (1, 2, 1), 64)]), 3)

    def refuse(self, what, ins, letters, outs, rows):
        with self.assertRaises(NoBox) as caught:
            one_box(Counts(ins, letters, outs, rows))
        self.assertEqual(caught.exception.what, what)

    def test_words_in_order(self):
        two = [(name, 2) for name in "pqrstuvw"]
        self.refuse("letters", [X], [A], [X], [])
        self.refuse("outs", [X], [], [C, X], [((0,), (0, 0), 65)])
        self.refuse("outs", [X], [], [("p", 4), ("q", 4), ("r", 4), ("s", 2)], [((0,), (0,) * 4, 65)])
        self.refuse("post", two[:7], [], [A], [((0,) * 7, (0,), 64), ((0,) * 7, (1,), 1)])
        self.refuse("post", [], [], [], [((), (), 10 ** 100)])
        full = [(told, (1,), 1) for told in fillings([2] * 7)]
        self.refuse("takes", two[:7], [], [A], full)
        self.refuse("takes", two[:6], [], [A], [])
        for sizes in [(4, 4, 4, 4), (2, 3, 3, 4)]:
            full = [(told, (1,), 1) for told in fillings(sizes)]
            self.refuse("takes", list(zip("pqrs", sizes)), [], [A], full)
        self.refuse("takes", [("p", 4), ("q", 4), ("r", 3)], [], [], [((0, 0, 0), (), 5)])
        self.refuse("takes", two[:4], [], two[4:8] + [A, C], [((0,) * 4, (0,) * 6, 17)])
        self.refuse("takes", [(name, 4) for name in "abcdefghijklmnop"], [], [], [])
        self.refuse("makes", [], [], [], [((), (), 1)])
        self.refuse("makes", [], [], [(name, 2) for name in "abcdef"], [])
        self.refuse("makes", [], [], [(name, 2) for name in "abcd"], [((), (0,) * 4, 64)])


class Fault(unittest.TestCase):
    def test_words(self):
        box = Box(0, [X], [A], [(0,), (1,)])
        chart = Chart([X, A], [box], ["a"])
        counts = all_in(chart)
        self.assertIsNone(one_box_fault(counts, chart))
        two = Chart([X, A, C], [box, identity_box(C)], ["a"])
        self.assertEqual(one_box_fault(counts, two), "box")
        chance = Chart([X, A], [box.with_entry((0,), [((0,), (1, 2)), ((1,), (1, 2))])], ["a"])
        self.assertEqual(one_box_fault(counts, chance), "box")
        self.assertEqual(one_box_fault(counts, Chart([("y", 2), A], [Box(0, [("y", 2)], [A], [(0,), (1,)])], ["a"])), "ins")
        self.assertEqual(one_box_fault(counts, Chart([X, ("y", 2), A], [box], ["a"])), "ins")
        self.assertEqual(one_box_fault(counts, chart.with_outs([])), "outs")
        wider = Chart([X, ("a", 3)], [Box(0, [X], [("a", 3)], [(0,), (1,)])], ["a"])
        self.assertEqual(one_box_fault(counts, wider), "outs")
        self.assertEqual(one_box_fault(counts, chart.with_box(0, Box(0, [X], [A], [(0,), (0,)]))), "counts")
        more = Chart([X, A, C], [Box(0, [X, C], [A, C], [(0, 0), (0, 0), (1, 0), (1, 0)])], ["a"])
        self.assertEqual(one_box_fault(counts, more), "letters")
        self.assertEqual(one_box_fault(Counts([X], [], [A], []), more.with_outs(["a"])), "counts")

    def test_order_of_wires(self):
        box = Box(0, [X, ("y", 2)], [A, C], [(0, 0), (0, 1), (1, 0), (1, 1)])
        chart = Chart([X, ("y", 2), A, C], [box], ["a", "c"])
        counts = all_in(chart)
        self.assertEqual(one_box_fault(counts, Chart([("y", 2), X, A, C], [box], ["a", "c"])), "ins")
        self.assertEqual(one_box_fault(counts, chart.with_outs(["c", "a"])), "outs")
        self.assertIsNone(one_box_fault(counts, Chart([C, X, A, ("y", 2)], [box], ["a", "c"])))


if __name__ == "__main__":
    unittest.main()
