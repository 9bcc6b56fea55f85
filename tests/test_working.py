import random
import unittest
from fractions import Fraction

from alreadytold.boxes import Box
from alreadytold.charts import Chart, all_ins, posts_of
from alreadytold.errors import BadIns, BadPost
from alreadytold.working import worked, worths_at
from samples import random_chart, slow_worked

HALF = (1, 2)


class Working(unittest.TestCase):
    def test_against_the_words(self):
        rng = random.Random(11)
        for number in range(120):
            chart = random_chart(rng, chance=0.4 if number % 2 else 0.0, days=3)
            for ins in all_ins(chart)[:4]:
                for post in posts_of(chart)[:9]:
                    rows = worked(chart, list(ins), list(post))
                    self.assertEqual(rows, slow_worked(chart, ins, post))
                    self.assertEqual(sum(Fraction(*share) for _, _, share in rows), 1)
                    if chart.is_sure:
                        self.assertEqual([share for _, _, share in rows], [(1, 1)])

    def test_told_worths_on_later_days_and_among_the_outs(self):
        # Letter a is told to the box of day 0; the box of day 2 and the outs see what was told, too.
        x, a, b, c = ("x", 2), ("a", 2), ("b", 2), ("c", 2)
        boxes = [Box(2, [a], [c], [(0,), (1,)]), Box(1, [x], [a], [(1,), (0,)]), Box(0, [a], [b], [(1,), (0,)])]
        chart = Chart([c, x, b, a], boxes, ["a", "c"])
        self.assertEqual(chart.letters, ("a",))
        self.assertEqual(worked(chart, (0,), (0,)), (((0, 0, 1, 0), (1,), (1, 1)),))
        self.assertEqual(worked(chart, (0,), (1,)), (((1, 0, 0, 1), (1,), (1, 1)),))
        self.assertEqual(worked(chart, (1,), (1,)), (((1, 1, 0, 1), (0,), (1, 1)),))
        filling = worked(chart, (0,), (0,))[0][0]
        self.assertEqual(worths_at(chart, filling, chart.outs), (0, 0))

    def test_chance_boxes_draw_apart(self):
        a, b = ("a", 2), ("b", 3)
        boxes = [Box(0, [], [a], [[((0,), (1, 3)), ((1,), (2, 3))]]),
                 Box(0, [], [b], [[((2,), HALF), ((0,), HALF)]])]
        self.assertEqual(worked(Chart([b, a], boxes, []), (), ()), (
            ((0, 0), (), (1, 6)), ((0, 1), (), (1, 3)), ((2, 0), (), (1, 6)), ((2, 1), (), (1, 3))))

    def test_rows_ascend_by_filling_then_sent(self):
        a, b = ("a", 2), ("b", 2)
        entry = [((1, 1), (1, 4)), ((0, 1), (1, 4)), ((1, 0), (1, 4)), ((0, 0), (1, 4))]
        chart = Chart([a, b], [Box(0, [a], [a, b], [entry, entry])], [])
        self.assertEqual(worked(chart, (), (1,)), (
            ((1, 0), (0,), (1, 4)), ((1, 0), (1,), (1, 4)), ((1, 1), (0,), (1, 4)), ((1, 1), (1,), (1, 4))))

    def test_days_count_and_the_order_of_boxes_does_not(self):
        rng = random.Random(4)
        for _ in range(40):
            chart = random_chart(rng, chance=0.3)
            boxes = list(chart.boxes)
            rng.shuffle(boxes)
            other = Chart(chart.wires, boxes, chart.outs)
            for post in posts_of(chart)[:4]:
                ins = all_ins(chart)[-1]
                self.assertEqual(worked(chart, ins, post), worked(other, ins, post))

    def test_refusals(self):
        x, a = ("x", 2), ("a", 2)
        chart = Chart([x, a], [Box(0, [a], [a], [(0,), (1,)])], [])
        for ins, post, kind, index in [(None, None, BadIns, 0), ((2,), (5,), BadIns, 0), ((0, 0), (0,), BadIns, 1),
                                       ((0,), (), BadPost, 0), ((0,), (0, 1), BadPost, 1), ((0,), None, BadPost, 0),
                                       ((None,), (0,), BadIns, 0), ((0,), (True,), BadPost, 0)]:
            with self.assertRaises(kind) as caught:
                worked(chart, ins, post)
            self.assertEqual(caught.exception.index, index)

    def test_worths_at(self):
        chart = Chart([("x", 2), ("a", 3), ("b", 4)], [Box(0, [], [("a", 3)], [(2,)])], ["b", "x"])
        self.assertEqual(worths_at(chart, [1, 2, 3], ["b", "a"]), (3, 2))
        self.assertEqual(worths_at(chart, (1, 2, 3), chart.outs), (3, 1))
        self.assertEqual(worths_at(chart, (1, 2, 3), ()), ())


if __name__ == "__main__":
    unittest.main()
