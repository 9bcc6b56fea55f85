import random
import unittest

from alreadytold.boxes import Box
from alreadytold.charts import Chart, all_ins, posts_of
from alreadytold.counts import Counts
from alreadytold.drawing import all_in, counts_of, draw_all, draw_in, same_lets
from alreadytold.errors import NoLetter, OtherWires
from samples import (ODD_THINGS, identity_box, named, random_chart, slow_lets, slow_stories, slow_worked, small_charts,
                     fillings)

X, A, B, C = ("x", 2), ("a", 2), ("b", 3), ("c", 2)


def slow_counts(chart, names):
    """[3.1] word by word."""
    table = {}
    wires = [name for name, _ in chart.wires]
    for ins in all_ins(chart):
        for post in posts_of(chart):
            for filling, sent, _ in slow_worked(chart, ins, post):
                told_letters = dict(zip(chart.letters, post))
                sent_letters = dict(zip(chart.letters, sent))
                if any(told_letters[name] != sent_letters[name] for name in names):
                    continue
                others = [name for name in chart.letters if name not in names]
                outs = tuple(filling[wires.index(name)] for name in chart.outs)
                key = (ins + tuple(told_letters[name] for name in others), outs + tuple(sent_letters[name] for name in others))
                table[key] = table.get(key, 0) + 1
    others = [name for name in chart.letters if name not in names]
    return Counts(named(chart, chart.ins), named(chart, others), named(chart, chart.outs),
                  [(told, sent, table[told, sent]) for told, sent in sorted(table)])


def some_charts(seed, many):
    for rng, chart, _ in small_charts(seed, many):
        if len(all_ins(chart)) * len(posts_of(chart)) <= 60:
            yield rng, chart


class Drawn(unittest.TestCase):
    def test_against_the_words(self):
        for rng, chart in some_charts(301, 60):
            names = rng.sample(chart.letters, rng.randint(0, len(chart.letters)))
            doubled = names + names[:1]
            self.assertEqual(counts_of(chart, doubled), slow_counts(chart, names))
            self.assertEqual(counts_of(chart, tuple(names)), slow_counts(chart, names))
            self.assertEqual(counts_of(chart, []).letters, named(chart, chart.letters))

    def test_all_in_counts_stories(self):
        several = 0
        for _, chart in some_charts(302, 60):
            table = {}
            wires = [name for name, _ in chart.wires]
            for ins in all_ins(chart):
                for filling in slow_stories(chart, ins):
                    key = (ins, tuple(filling[wires.index(name)] for name in chart.outs))
                    table[key] = table.get(key, 0) + 1
            several += any(number > 1 for number in table.values())
            counts = all_in(chart)
            self.assertEqual(counts.rows, tuple((ins, outs, table[ins, outs]) for ins, outs in sorted(table)))
            self.assertEqual(counts, counts_of(chart, list(chart.letters)))
        self.assertGreater(several, 10)

    def test_all_fillings_of_all_wires(self):
        # The days of the boxes mean nothing once all letters are drawn in.
        rng = random.Random(303)
        for _ in range(20):
            chart = random_chart(rng, chance=0.3, wires=4)
            wires = [name for name, _ in chart.wires]
            lets = [filling for filling in fillings([size for _, size in chart.wires])
                    if all(slow_lets(chart, box, filling) for box in chart.boxes)]
            counts = all_in(chart)
            self.assertEqual(sum(row[2] for row in counts.rows), len(lets))
            for filling in lets[:5]:
                ins = tuple(filling[wires.index(name)] for name in chart.ins)
                outs = tuple(filling[wires.index(name)] for name in chart.outs)
                same = [f for f in lets if tuple(f[wires.index(name)] for name in chart.ins + chart.outs) == ins + outs]
                self.assertEqual(counts.number_at(ins, outs), len(same))

    def test_an_out_shows_the_told_worth(self):
        turned = Chart([A], [Box(0, [A], [A], [(1,), (0,)])], ["a"])
        self.assertEqual(counts_of(turned, []).rows, (((0,), (0, 1), 1), ((1,), (1, 0), 1)))
        self.assertEqual(all_in(turned).rows, ())
        kept = Chart([A], [identity_box(A)], ["a"])
        self.assertEqual(all_in(kept).rows, (((), (0,), 1), ((), (1,), 1)))

    def test_a_chart_without_letters(self):
        chart = Chart([X, A], [Box(0, [X], [A], [(1,), [((0,), (1, 2)), ((1,), (1, 2))]])], ["a", "x"])
        self.assertEqual(all_in(chart).rows, (((0,), (1, 0), 1), ((1,), (0, 1), 1), ((1,), (1, 1), 1)))
        self.assertEqual(all_in(chart), counts_of(chart, ()))

    def test_no_letter(self):
        chart = Chart([X, A, C], [identity_box(A), Box(1, [A], [C], [(0,), (1,)])], [])
        for names in ODD_THINGS:
            if not isinstance(names, (list, tuple)) or len(names) > 0:
                with self.assertRaises(NoLetter) as caught:
                    counts_of(chart, names)
                told = names[0] if isinstance(names, (list, tuple)) and names[0] != "a" else names
                if isinstance(names, (list, tuple)) and names[0] == "a":
                    told = names[1]
                self.assertIs(caught.exception.name, told)
        for names, name in [(["a", "x"], "x"), (["c", "x"], "c"), (["a", "a", []], []), ("a", "a"), ({"a": 1}, {"a": 1})]:
            with self.assertRaises(NoLetter) as caught:
                counts_of(chart, names)
            self.assertEqual(caught.exception.name, name)


class OneByOne(unittest.TestCase):
    def test_in_any_order(self):
        for rng, chart in some_charts(304, 60):
            names = rng.sample(chart.letters, rng.randint(0, len(chart.letters)))
            begun = counts_of(chart, [])
            counts = begun
            for name in names:
                counts = draw_in(counts, name)
            self.assertEqual(counts, counts_of(chart, names))
            self.assertEqual(draw_all(begun, names), counts)
            self.assertEqual(draw_all(counts, [name for name in chart.letters if name not in names]), all_in(chart))

    def test_counts_that_no_chart_has(self):
        counts = Counts([X], [A, B], [C], [((0, 0, 1), (1, 0, 1), 5), ((0, 1, 1), (1, 1, 2), 7), ((0, 1, 2), (1, 1, 2), 10 ** 30)])
        one = draw_in(counts, "a")
        self.assertEqual(one, Counts([X], [B], [C], [((0, 1), (1, 1), 5), ((0, 1), (1, 2), 7), ((0, 2), (1, 2), 10 ** 30)]))
        self.assertEqual(draw_in(one, "b").rows, (((0,), (1,), 10 ** 30 + 5),))
        self.assertEqual(draw_all(counts, ("b", "a")), draw_all(counts, ["a", "b"]))

    def test_no_letter(self):
        counts = Counts([X], [A, B], [C], [])
        for name in ODD_THINGS + ["x", "c"]:
            if name != "a":
                with self.assertRaises(NoLetter) as caught:
                    draw_in(counts, name)
                self.assertIs(caught.exception.name, name)
        for names, name in [(["a", "a"], "a"), (["b", "x"], "x"), ("ab", "ab"), (None, None), ({"a": 0}, {"a": 0}),
                            (["b", "a", "b"], "b")]:
            with self.assertRaises(NoLetter) as caught:
                draw_all(counts, names)
            self.assertEqual(caught.exception.name, name)
        self.assertEqual(draw_all(counts, []), counts)


class Lets(unittest.TestCase):
    def test_couples_above_0(self):
        one = Counts([X], [A], [C], [((0, 0), (1, 0), 5), ((1, 0), (0, 1), 1)])
        self.assertIs(same_lets(one, Counts([X], [A], [C], [((0, 0), (1, 0), 1), ((1, 0), (0, 1), 9)])), True)
        self.assertIs(same_lets(one, Counts([X], [A], [C], [((0, 0), (1, 0), 5)])), False)
        self.assertIs(same_lets(one, Counts([X], [A], [C], [((0, 0), (1, 0), 5), ((1, 1), (0, 1), 1)])), False)

    def test_other_wires(self):
        one = Counts([X, ("y", 2)], [A, B], [C, ("d", 2)], [])
        rows = [("ins", Counts([("y", 2), X], [A], [], [])), ("ins", Counts([X], [A, B], [], [])),
                ("ins", Counts([("x", 3), ("y", 2)], [A, B], [C, ("d", 2)], [])),
                ("letters", Counts([X, ("y", 2)], [B, A], [], [])), ("letters", Counts([X, ("y", 2)], [], [C], [])),
                ("letters", Counts([X, ("y", 2)], [A, ("b", 2)], [C, ("d", 2)], [])),
                ("outs", Counts([X, ("y", 2)], [A, B], [("d", 2), C], [])),
                ("outs", Counts([X, ("y", 2)], [A, B], [C, ("d", 3)], []))]
        for what, other in rows:
            for pair in [(one, other), (other, one)]:
                with self.assertRaises(OtherWires) as caught:
                    same_lets(*pair)
                self.assertEqual(caught.exception.what, what)
        self.assertIs(same_lets(one, one), True)


if __name__ == "__main__":
    unittest.main()
