import random
import unittest
from fractions import Fraction

from alreadytold.boxed import boxed
from alreadytold.boxes import Box
from alreadytold.charts import Chart, all_ins, posts_of
from alreadytold.customs import shares_by
from alreadytold.errors import NoBox
from alreadytold.rings import rings_of
from alreadytold.spans import outs_of
from alreadytold.stories import all_stories
from alreadytold.sureouts import sure_outs
from alreadytold.turning import turning_table
from alreadytold.working import worths_at
from samples import fillings, named, random_chart, ratio, slow_worked, small_charts

X, A, B, C, D = ("x", 2), ("a", 2), ("b", 2), ("c", 2), ("d", 2)
HALF = (1, 2)


def slow_entry(chart, others, ins, post):
    """[7.9]: the rows of sent post and other outs, with the sums of their shares."""
    names = [name for name, _ in chart.wires]
    parts = {}
    for filling, sent, share in slow_worked(chart, ins, post):
        row = sent + tuple(filling[names.index(name)] for name in others)
        parts[row] = parts.get(row, 0) + Fraction(*share)
    return tuple((row, ratio(parts[row])) for row in sorted(parts))


class Boxed(unittest.TestCase):
    def check_parts(self, chart, one):
        others = [name for name, _ in chart.wires
                  if name in chart.outs and name not in chart.ins + chart.letters]
        kept = chart.ins + chart.letters + tuple(others)
        self.assertEqual(one.wires, tuple(wire for wire in chart.wires if wire[0] in kept))
        self.assertEqual((len(one.boxes), one.boxes[0].day, one.outs), (1, 0, chart.outs))
        self.assertEqual(one.boxes[0].takes, named(chart, chart.ins + chart.letters))
        self.assertEqual(one.boxes[0].makes, named(chart, chart.letters + tuple(others)))
        self.assertEqual((one.ins, one.letters), (chart.ins, chart.letters))
        for ins in all_ins(chart):
            for post in posts_of(chart):
                self.assertEqual(one.boxes[0].made_by(ins + post), slow_entry(chart, others, ins, post))

    def test_entries_by_the_worked_days(self):
        several = chance = shown_letters = 0
        for _, chart, _ in small_charts(601, 80):
            try:
                one = boxed(chart)
            except NoBox:
                continue
            self.check_parts(chart, one)
            several += len(chart.boxes) > 1
            chance += not one.is_sure
            shown_letters += any(name in chart.letters for name in chart.outs)
        self.assertTrue(several > 20 and chance > 10 and shown_letters > 10)

    def test_the_same_turning(self):
        stories = quarrels = 0
        for rng, chart, ins in small_charts(602, 60):
            try:
                one = boxed(chart)
            except NoBox:
                continue
            self.assertEqual(turning_table(one, ins), turning_table(chart, ins))
            self.assertEqual(rings_of(one, ins), rings_of(chart, ins))
            for custom in [("own", 0), ("seldom",), ("single",), ("slip", (1, 3))]:
                shares = shares_by(chart, ins, custom)
                self.assertEqual(shares_by(one, ins, custom), shares)
                self.assertEqual(outs_of(one, ins, shares), outs_of(chart, ins, shares))
            self.assertEqual(sure_outs(one, ins), sure_outs(chart, ins))
            posts = {worths_at(chart, filling, chart.letters) for filling in all_stories(chart, ins)}
            self.assertEqual({worths_at(one, filling, one.letters) for filling in all_stories(one, ins)}, posts)
            stories += bool(posts)
            quarrels += not posts
        self.assertTrue(stories > 10 and quarrels > 3)

    def test_order_of_wires(self):
        # The outs come in the order of the wires among the makes, and as they were among the outs.
        boxes = [Box(1, [X, B], [D, B], [(0, 1), (1, 0), (1, 1), (0, 0)]), Box(0, [X], [C, A], [(0, 1), (1, 0)])]
        chart = Chart([D, C, B, X, A], boxes, ["c", "x", "b", "d"])
        one = boxed(chart)
        self.assertEqual(one.wires, (D, C, B, X))
        self.assertEqual((one.boxes[0].takes, one.boxes[0].makes), ((X, B), (B, D, C)))
        self.assertEqual(one.outs, ("c", "x", "b", "d"))
        self.assertEqual([entry[0][0] for entry in one.boxes[0].entries],
                         [(1, 0, 0), (0, 1, 0), (1, 1, 1), (0, 0, 1)])

    def test_shares_are_joined(self):
        # c is not shown, so its two rows become one; the entry is sure then.
        halves = [((0,), HALF), ((1,), HALF)]
        chart = Chart([A, C], [Box(0, [A], [A], [(1,), (0,)]), Box(0, [], [C], [halves])], ["a"])
        self.assertTrue(boxed(chart).is_sure)
        chart = chart.with_outs(["c"])
        self.assertEqual(boxed(chart).boxes[0].entries[0], (((1, 0), HALF), ((1, 1), HALF)))

    def refuse(self, what, chart):
        with self.assertRaises(NoBox) as caught:
            boxed(chart)
        self.assertEqual(caught.exception.what, what)

    def chained(self, ins, letters, others, size=2):
        """A box that takes some of the ins; letters of further boxes that keep themselves."""
        told = [(f"x{'abcdefgh'[k]}", 2) for k in range(ins)]
        kept = [(f"y{'abcdefgh'[k]}", size) for k in range(letters)]
        made = [(f"z{'abcdefgh'[k]}", 2) for k in range(others)]
        boxes = []
        if kept:
            sizes = [size] * letters
            boxes.append(Box(0, kept, kept, fillings(sizes)))
        if made:
            boxes.append(Box(0, [], made, [(0,) * others]))
        return Chart(told + kept + made, boxes, [name for name, _ in made])

    def test_no_box_takes(self):
        self.assertEqual(len(boxed(self.chained(3, 3, 1)).boxes[0].takes), 6)
        self.refuse("takes", self.chained(4, 3, 1))

    def test_no_box_entries(self):
        wires = [("x", 4), ("p", 4)] + [("a", 4), ("b", 4), ("c", 2)]
        small = Chart(wires[:4], [Box(0, wires[2:4], wires[2:4], fillings([4, 4]))], [])
        self.assertEqual(len(boxed(small).boxes[0].entries), 256)
        self.refuse("entries", Chart(wires, [Box(0, wires[2:], wires[2:], fillings([4, 4, 2]))], []))
        # Both the takes and the entries are too many: the takes are told.
        seven = [(name, 2) for name in "pqr"] + [("a", 4), ("b", 2), ("c", 2), ("d", 2)]
        self.refuse("takes", Chart(seven, [Box(0, seven[3:], seven[3:], fillings([4, 2, 2, 2]))], []))

    def test_no_box_makes(self):
        self.assertEqual(len(boxed(self.chained(0, 2, 4)).boxes[0].makes), 6)
        self.refuse("makes", self.chained(0, 3, 4))
        # No letters, and the only out is an in.
        self.refuse("makes", Chart([X, A], [Box(0, [X], [A], [(0,), (1,)])], ["x"]))
        self.refuse("makes", Chart([X, A], [Box(0, [X], [A], [(0,), (1,)])], []))
        # Entries go ahead of makes.
        ins = [("p", 4), ("q", 4), ("r", 4)]
        letters = [("a", 4), ("b", 2)]
        chart = Chart(ins + letters, [Box(0, letters, letters, fillings([4, 2]))], [])
        self.refuse("entries", chart)

    def test_no_box_rows(self):
        wires = [A, B, C, D]
        halves = [((0,), HALF), ((1,), HALF)]
        boxes = [Box(0, [], [wire], [halves]) for wire in wires]
        self.assertEqual(len(boxed(Chart(wires, boxes, ["a", "b", "d"])).boxes[0].entries[0]), 8)
        self.refuse("rows", Chart(wires, boxes, ["a", "b", "c", "d"]))

    def test_greatest(self):
        rng = random.Random(603)
        letters = [("a", 4), ("b", 4), ("c", 4)]
        boxes = []
        for wire in letters:
            entries = [[((worth,), HALF), (((worth + rng.randint(1, 3)) % 4,), HALF)]
                       for worth in [rng.randrange(4) for _ in range(256)]]
            boxes.append(Box(0, [("x", 4)] + letters, [wire], entries))
        chart = Chart([("x", 4)] + letters, boxes, ["b"])
        one = boxed(chart)
        self.assertEqual(turning_table(one, (3,)), turning_table(chart, (3,)))

    def test_charts_that_have_no_box(self):
        words = {}
        rng = random.Random(604)
        for _ in range(200):
            chart = random_chart(rng, chance=0.4, wires=8)
            others = [name for name in chart.outs if name not in chart.ins + chart.letters]
            many = 1
            for size in chart.in_sizes + chart.letter_sizes:
                many *= size
            word = None
            if len(chart.ins) + len(chart.letters) > 6:
                word = "takes"
            elif many > 256:
                word = "entries"
            elif not 1 <= len(chart.letters) + len(others) <= 6:
                word = "makes"
            elif max(len(slow_entry(chart, others, ins, post)) for ins in all_ins(chart) for post in posts_of(chart)) > 8:
                word = "rows"
            words[word] = words.get(word, 0) + 1
            if word:
                self.refuse(word, chart)
            else:
                self.check_parts(chart, boxed(chart))
        self.assertTrue({None, "takes", "makes"} <= set(words), words)


if __name__ == "__main__":
    unittest.main()
