import unittest

from alreadytold.boxes import Box
from alreadytold.charts import Chart
from alreadytold.crowds import Crowd, crowd_fault, crowd_for
from alreadytold.errors import BadIns, NotLeft, NotMade, NoWire
from alreadytold.lefts import left_worths
from samples import ODD_THINGS, identity_box, some_ins
from test_lefts import any_charts

X, A, B, C = ("x", 2), ("a", 2), ("b", 3), ("c", 2)


def worded():
    """The example of part 6."""
    return Chart([X, A], [Box(0, [X, A], [A], [(0,), (0,), (0,), (1,)])], [])


def slow_right(chart, ins, name, worth, rows):
    """[6.7] word by word, for rows of the right kinds."""
    told = dict(zip(chart.ins, ins))
    for number, filling, made, sources in rows:
        box = chart.boxes[number]
        if made not in dict(box.made_by(filling)):
            return False
        for (take, _), taken, source in zip(box.takes, filling, sources):
            if take in told:
                if source is not None or told[take] not in (None, taken):
                    return False
                continue
            maker = rows[source]
            if (take, taken) not in list(zip([make for make, _ in chart.boxes[maker[0]].makes], maker[2])):
                return False
    return any((name, worth) in list(zip([make for make, _ in chart.boxes[row[0]].makes], row[2])) for row in rows)


class Crowds(unittest.TestCase):
    def test_for_every_left_worth(self):
        made = more = 0
        for rng, chart in any_charts(421, 200):
            ins = some_ins(rng, chart)
            lefts = dict(zip([name for name, _ in chart.wires], left_worths(chart, ins)))
            most = sum(len(lefts[name]) for name in lefts if name not in chart.ins)
            for name, size in chart.wires:
                if name in chart.ins:
                    continue
                for worth in range(size):
                    if worth not in lefts[name]:
                        with self.assertRaises(NotLeft) as caught:
                            crowd_for(chart, ins, name, worth)
                        self.assertEqual(caught.exception.worth, worth)
                        continue
                    crowd = crowd_for(chart, list(ins), name, worth)
                    self.assertIsInstance(crowd, Crowd)
                    self.assertLessEqual(len(crowd.rows), most)
                    self.assertTrue(slow_right(chart, ins, name, worth, crowd.rows))
                    self.assertIsNone(crowd_fault(chart, list(ins), name, worth, crowd))
                    listed = Crowd([[row[0], list(row[1]), list(row[2]), list(row[3])] for row in crowd.rows])
                    self.assertIsNone(crowd_fault(chart, ins, name, worth, listed))
                    made += 1
                    more += len(crowd.rows) > 1
        self.assertGreater(made, 200)
        self.assertGreater(more, 50)

    def test_its_own_source(self):
        self.assertEqual(crowd_for(worded(), (1,), "a", 1), Crowd(((0, (1, 1), (1,), (None, 0)),)))
        turned = Chart([A], [Box(0, [A], [A], [(1,), (0,)])], [])
        crowd = crowd_for(turned, (), "a", 1)
        self.assertEqual(len(crowd.rows), 2)
        self.assertIsNone(crowd_fault(turned, (), "a", 0, crowd))

    def test_ins_that_are_not_told(self):
        # Two copies may have unlike worths of x, so c is 1 though no story lets it.
        boxes = [Box(0, [X], [A], [(0,), (1,)]), Box(1, [X, A], [C], [(0,), (1,), (0,), (0,)])]
        chart = Chart([X, A, C], boxes, [])
        crowd = crowd_for(chart, (None,), "c", 1)
        self.assertIsNone(crowd_fault(chart, (None,), "c", 1, crowd))
        self.assertEqual(crowd_fault(chart, (0,), "c", 1, crowd), "source")
        with self.assertRaises(NotLeft):
            crowd_for(chart, (0,), "c", 1)

    def test_refusals_in_order(self):
        for function in (crowd_for, lambda *things: crowd_fault(*things, Crowd(0))):
            for ins, index in [(None, 0), ((), 0), ((2,), 0), ((None, None), 1)]:
                with self.assertRaises(BadIns) as caught:
                    function(worded(), ins, 0, 0)
                self.assertEqual(caught.exception.index, index)
            for name in ODD_THINGS:
                if name != "a":
                    with self.assertRaises(NoWire) as caught:
                        function(worded(), (None,), name, None)
                    self.assertIs(caught.exception.name, name)
            with self.assertRaises(NotMade) as caught:
                function(worded(), (None,), "x", None)
            self.assertEqual(caught.exception.name, "x")
        for worth in ODD_THINGS + [2, -1, True, False, 1.0]:
            if worth not in (0, 1) or isinstance(worth, (bool, float)):
                with self.assertRaises(NotLeft) as caught:
                    crowd_for(worded(), (None,), "a", worth)
                self.assertIs(caught.exception.worth, worth)

    def test_result(self):
        rows = [1]
        self.assertIs(Crowd(rows).rows, rows)
        self.assertTrue(Crowd(rows=[1]) == Crowd(rows))
        self.assertTrue(Crowd([1]) != Crowd([2]))
        self.assertTrue(Crowd([1]) != [1])


class Fault(unittest.TestCase):
    def fault(self, rows, worth=1, ins=(1,), name="a"):
        return crowd_fault(worded(), ins, name, worth, Crowd(rows))

    def test_row(self):
        good = (0, (1, 1), (1,), (None, 0))
        self.assertIsNone(self.fault([good]))
        for rows in ODD_THINGS:
            if not isinstance(rows, (list, tuple)):
                self.assertEqual(self.fault(rows), "row")
        for row in ODD_THINGS + [good[:3], good + (0,), (1,) + good[1:], (True,) + good[1:], (-1,) + good[1:], (0, (1,), (1,), (None, 0)),
                                 (0, (1, 2), (1,), (None, 0)), (0, (1, 1), (2,), (None, 0)), (0, (1, 1), (), (None, 0)),
                                 (0, (1, 1), (1,), (None,)), (0, (1, 1), (1,), (None, 2)), (0, (1, 1), (1,), (None, -1)),
                                 (0, (1, 1), (1,), (None, False)), (0, (1, 1), (1,), 0), (0, (1, 1), 1, (None, 0))]:
            self.assertEqual(self.fault([good, row]), "row", row)

    def test_words_of_all_rows_ahead_of_the_next(self):
        good = (0, (1, 1), (1,), (None, 0))
        entry = (0, (0, 1), (1,), (None, 0))
        source = (0, (1, 1), (1,), (0, 0))
        self.assertEqual(self.fault([source, good, entry]), "entry")
        self.assertEqual(self.fault([source, good, (0, (1, 1), (2,), (None, 0))]), "row")
        self.assertEqual(self.fault([good, source]), "source")
        self.assertEqual(self.fault([source, good], worth=0), "source")
        self.assertEqual(self.fault([good], worth=0), "worth")
        self.assertEqual(self.fault([]), "worth")
        self.assertEqual(self.fault([good], worth=True), "worth")
        self.assertEqual(self.fault([good], worth="1"), "worth")

    def test_source(self):
        zero = (0, (1, 0), (0,), (None, 0))
        self.assertEqual(self.fault([(0, (1, 1), (1,), (None, None))]), "source")
        self.assertEqual(self.fault([(0, (1, 1), (1,), (None, 1)), zero[:3] + ((None, 1),)]), "source")
        self.assertEqual(self.fault([zero], worth=0, ins=(0,)), "source")
        self.assertIsNone(self.fault([zero], worth=0, ins=(None,)))
        chart = Chart([A, B, C], [identity_box(A), Box(0, [A, C], [B, C], [(0, 0), (2, 1), (1, 1), (0, 0)])], [])
        rows = [(1, (0, 1), (2, 1), (1, 0)), (0, (0,), (0,), (1,))]
        self.assertIsNone(crowd_fault(chart, (), "b", 2, Crowd(rows)))
        # The source makes another wire, or the wire with another worth.
        self.assertEqual(crowd_fault(chart, (), "b", 2, Crowd([rows[0][:3] + ((0, 0),), rows[1]])), "source")
        self.assertEqual(crowd_fault(chart, (), "b", 2, Crowd([rows[0], (0, (1,), (1,), (1,))])), "source")
        self.assertIsNone(crowd_fault(chart, (), "c", 1, Crowd(rows)))
        self.assertEqual(crowd_fault(chart, (), "b", 1, Crowd(rows)), "worth")

    def test_chance_rows(self):
        box = Box(0, [A], [A], [[((0,), (1, 2)), ((1,), (1, 2))], (0,)])
        chart = Chart([A], [box], [])
        crowd = crowd_for(chart, (), "a", 1)
        self.assertIsNone(crowd_fault(chart, (), "a", 1, crowd))
        self.assertIsNone(crowd_fault(chart, (), "a", 1, Crowd([(0, (0,), (1,), (1,)), (0, (0,), (0,), (1,))])))
        self.assertEqual(crowd_fault(chart, (), "a", 1, Crowd([(0, (1,), (1,), (0,))])), "entry")


if __name__ == "__main__":
    unittest.main()
