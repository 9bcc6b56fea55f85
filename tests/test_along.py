import random
import unittest

from alreadytold.along import exchanged_worths, later_chart, ordered_chart, renamed_chart
from alreadytold.boxes import Box
from alreadytold.charts import Chart, all_ins, posts_of
from alreadytold.errors import BadBox, BadChart, BadDays, BadNaming, BadOrder, NoWire
from alreadytold.joining import joined_charts
from alreadytold.working import worked
from samples import ODD_THINGS, random_chart

HALF = (1, 2)
X, A, B = ("x", 2), ("a", 2), ("b", 3)


def sample():
    return Chart([X, A, B], [Box(1, [X, A], [A], [(0,), (1,), [((0,), HALF), ((1,), HALF)], (1,)]),
                             Box(2, [A], [B], [(2,), (0,)])], ["b", "a"])


def all_rows(chart, ins, post):
    """The rows of worked by names: the fillings as dicts."""
    names = [name for name, _ in chart.wires]
    return [(dict(zip(names, filling)), dict(zip(chart.letters, sent)), share)
            for filling, sent, share in worked(chart, ins, post)]


def by_names(names, worths):
    return dict(zip(names, worths))


class Renaming(unittest.TestCase):
    def test_round(self):
        chart = renamed_chart(sample(), [("x", "a"), ["a", "b"], ("b", "x")])
        self.assertEqual(chart.wires, (("a", 2), ("b", 2), ("x", 3)))
        self.assertEqual(chart.outs, ("x", "b"))
        self.assertEqual((chart.ins, chart.letters), (("a",), ("b",)))
        self.assertEqual(chart.boxes[0].takes, (("a", 2), ("b", 2)))
        self.assertEqual(chart.boxes[1].makes, (("x", 3),))
        self.assertEqual(worked(chart, (1,), (0,)), worked(sample(), (1,), (0,)))

    def test_some(self):
        self.assertEqual(renamed_chart(sample(), []), sample())
        self.assertEqual(renamed_chart(sample(), (("a", "a"),)), sample())
        self.assertEqual(renamed_chart(sample(), [("a", "q")]).letters, ("q",))

    def test_refusals(self):
        chart = sample()
        for index, pairs in [(0, None), (0, "ab"), (0, {"a": "b"}), (0, [None]), (0, ["ab"]), (0, [("a",)]),
                             (0, [("a", "b", "c")]), (0, [("q", "a")]), (0, [("a", "Q")]), (1, [("a", "q"), ("a", "r")]),
                             (1, [("a", "q"), None]), (0, [("a", None), None]), (1, [("a", "b")]),
                             (2, [("a", "q"), ("b", "q")]), (2, [("a", "b"), ("x", "q")]), (0, [(["a"], "q")]),
                             (0, [("a", ["q"])]), (1, [("a", "b"), ("q", "r"), ("x", "b")])]:
            with self.assertRaises(BadNaming) as caught:
                renamed_chart(chart, pairs)
            self.assertEqual(caught.exception.index, index, pairs)


class Worths(unittest.TestCase):
    def test_called_anew(self):
        chart = exchanged_worths(sample(), "b", [1, 2, 0])
        self.assertEqual(chart.boxes[1].entries, ((((0,), (1, 1)),), (((1,), (1, 1)),)))
        chart = exchanged_worths(sample(), "x", (1, 0))
        self.assertEqual(worked(chart, (0,), (0,)), tuple(
            ((0,) + filling[1:], sent, share) for filling, sent, share in worked(sample(), (1,), (0,))))

    def test_all_goes_along(self):
        rng = random.Random(8)
        for _ in range(60):
            chart = random_chart(rng, chance=0.3)
            name, size = rng.choice(chart.wires)
            order = list(range(size))
            rng.shuffle(order)
            other = exchanged_worths(chart, name, order)
            self.assertEqual((other.wires, other.outs, other.letters), (chart.wires, chart.outs, chart.letters))

            def called(names, worths):
                return tuple(order[worth] if wire == name else worth for wire, worth in zip(names, worths))
            names = [wire for wire, _ in chart.wires]
            for ins in all_ins(chart)[:3]:
                for post in posts_of(chart)[:3]:
                    expected = sorted((called(names, filling), called(chart.letters, sent), share)
                                      for filling, sent, share in worked(chart, ins, post))
                    self.assertEqual(list(worked(other, called(chart.ins, ins), called(chart.letters, post))), expected)

    def test_refusals(self):
        for thing in ODD_THINGS:
            if thing != "a":
                with self.assertRaises(NoWire) as caught:
                    exchanged_worths(sample(), thing, None)
                self.assertIs(caught.exception.name, thing)
        for order in [None, [], [0, 1], [0, 1, 1], [0, 1, 2, 3], [0, 1, 3], "012", [True, 0, 2], {0: 1, 1: 2, 2: 0}]:
            with self.assertRaises(BadOrder) as caught:
                exchanged_worths(sample(), "b", order)
            self.assertEqual(caught.exception.order, order)


class Order(unittest.TestCase):
    def test_wires(self):
        chart = ordered_chart(sample(), [2, 0, 1])
        self.assertEqual(chart, Chart([B, X, A], sample().boxes, ["b", "a"]))

    def test_all_goes_along(self):
        rng = random.Random(9)
        for _ in range(40):
            chart = random_chart(rng, chance=0.3)
            order = list(range(len(chart.wires)))
            rng.shuffle(order)
            other = ordered_chart(chart, tuple(order))
            self.assertEqual(other.wires, tuple(chart.wires[place] for place in order))
            ins, post = by_names(chart.ins, all_ins(chart)[-1]), by_names(chart.letters, posts_of(chart)[-1])
            one = all_rows(chart, tuple(ins.values()), tuple(post.values()))
            two = all_rows(other, tuple(ins[name] for name in other.ins), tuple(post[name] for name in other.letters))
            self.assertCountEqual(one, two)

    def test_refusals(self):
        for order in [None, [0, 1], [0, 1, 1], [0, 1, 2, 3], [0, 1, 3], [-1, 0, 1], "012", [0, True, 2]]:
            with self.assertRaises(BadOrder) as caught:
                ordered_chart(sample(), order)
            self.assertEqual(caught.exception.order, order)


class Later(unittest.TestCase):
    def test_days(self):
        chart = later_chart(sample(), 7)
        self.assertEqual([box.day for box in chart.boxes], [8, 9])
        self.assertEqual(later_chart(chart, -7), sample())
        self.assertEqual(later_chart(sample(), 0), sample())
        self.assertEqual([box.day for box in later_chart(sample(), -1).boxes], [0, 1])

    def test_refusals(self):
        for days in [-10, 10, True, None, "1", 1.0]:
            with self.assertRaises(BadDays) as caught:
                later_chart(sample(), days)
            self.assertEqual(caught.exception.days, days)
        for days in [-2, 8, 9, -9]:
            with self.assertRaises(BadBox) as caught:
                later_chart(sample(), days)
            self.assertEqual((caught.exception.index, caught.exception.what), (0, "day"))


class Joining(unittest.TestCase):
    def test_common_wires(self):
        one = Chart([X, A], [Box(0, [X], [A], [(0,), (1,)])], ["a"])
        other = Chart([B, A, X], [Box(0, [A], [B], [(0,), (2,)])], ["b", "a", "x"])
        chart = joined_charts(one, other)
        self.assertEqual(chart, Chart([X, A, B], one.boxes + other.boxes, ["a", "b", "x"]))
        self.assertEqual((chart.ins, chart.letters), (("x",), ("a",)))
        self.assertEqual(one, Chart([X, A], [Box(0, [X], [A], [(0,), (1,)])], ["a"]))

    def test_faults(self):
        def maker(*wires):
            return Chart(wires, [Box(0, [], wires, [[0] * len(wires)])], [name for name, _ in wires])
        with self.assertRaises(BadChart) as caught:
            joined_charts(maker(X, A), maker(B, ("x", 3)))
        self.assertEqual((caught.exception.index, caught.exception.what), (3, "wire"))
        with self.assertRaises(BadChart) as caught:
            joined_charts(maker(X, A), maker(B, X))
        self.assertEqual((caught.exception.index, caught.exception.what), (1, "twice"))
        with self.assertRaises(BadChart) as caught:
            joined_charts(maker(X, A, B), maker(("p", 2), ("q", 2), ("r", 2), ("s", 2)))
        self.assertEqual((caught.exception.index, caught.exception.what), (0, "outs"))


if __name__ == "__main__":
    unittest.main()
