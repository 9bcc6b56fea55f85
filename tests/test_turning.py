import unittest
from fractions import Fraction

from alreadytold.boxes import Box
from alreadytold.charts import Chart, all_ins, posts_of
from alreadytold.errors import BadIns, BadPost, BadShares, BadTurns
from alreadytold.turning import bounds_after, check_shares, mean_shares_after, shares_after, turning_table
from samples import ODD_THINGS, after_turn, fraction, random_shares, ratio, slow_power, slow_table, small_charts

ZERO, ONE, HALF = (0, 1), (1, 1), (1, 2)
X, A = ("x", 2), ("a", 2)


def drawer():
    return Chart([X, A], [Box(0, [X, A], [A], [(0,), (1,), [((0,), HALF), ((1,), HALF)], (0,)])], [])


class Table(unittest.TestCase):
    def test_against_the_words(self):
        for _, chart, _ in small_charts(51, 60):
            for ins in all_ins(chart)[:2]:
                table = turning_table(chart, list(ins))
                self.assertEqual(table, tuple(tuple(ratio(share) for share in row) for row in slow_table(chart, ins)))
                for row in table:
                    self.assertEqual(sum(fraction(share) for share in row), 1)
                    if chart.is_sure:
                        self.assertEqual(sorted(row), [ZERO] * (len(row) - 1) + [ONE])

    def test_example(self):
        self.assertEqual(turning_table(drawer(), (1,)), ((HALF, HALF), (ONE, ZERO)))
        self.assertEqual(turning_table(drawer(), [0]), ((ONE, ZERO), (ZERO, ONE)))
        chart = Chart([A], [Box(0, [], [A], [(0,)])], [])
        self.assertEqual(turning_table(chart, ()), ((ONE,),))

    def test_refused_ins(self):
        for ins, index in [(None, 0), ((2,), 0), ((0, 1), 1)]:
            with self.assertRaises(BadIns) as caught:
                turning_table(drawer(), ins)
            self.assertEqual(caught.exception.index, index)


class Shares(unittest.TestCase):
    def refuse(self, index, what, shares):
        for function in (check_shares, lambda chart, thing: shares_after(chart, (0,), thing, None),
                         lambda chart, thing: mean_shares_after(chart, (0,), thing, None)):
            with self.assertRaises(BadShares) as caught:
                function(drawer(), shares)
            self.assertEqual((caught.exception.index, caught.exception.what), (index, what))

    def test_every_word(self):
        for shares in [None, [], [ONE], [ONE, ZERO, ZERO], "ab", {0: ONE, 1: ZERO}, 3]:
            self.refuse(0, "many", shares)
        for thing in ODD_THINGS + [[1, 2], (2, 4), (1, 0)]:
            if thing != (1, 2) or isinstance(thing, list):
                self.refuse(1, "ratio", [HALF, thing])
        self.refuse(0, "ratio", [1, 0])
        self.refuse(1, "less", [(2, 1), (-1, 1)])
        self.refuse(0, "less", [(-1, 1), None])
        self.refuse(0, "ratio", [None, (-1, 1)])
        for shares in [[HALF, (1, 3)], [ONE, ONE], [ZERO, ZERO], [ONE, (1, 10 ** 99)]]:
            self.refuse(0, "sum", shares)

    def test_right_ones(self):
        self.assertEqual(check_shares(drawer(), [HALF, HALF]), (HALF, HALF))
        self.assertEqual(check_shares(drawer(), (ZERO, ONE)), (ZERO, ONE))
        self.assertEqual(check_shares(Chart([A], [Box(0, [], [A], [(0,)])], []), [ONE]), (ONE,))

    def test_after_and_mean_and_bounds(self):
        for rng, chart, _ in small_charts(52, 25):
            ins = rng.choice(all_ins(chart))
            table = slow_table(chart, ins)
            shares = random_shares(rng, len(table))
            now = [fraction(share) for share in shares]
            total = [Fraction(0)] * len(table)
            for turns in range(13):
                self.assertEqual(shares_after(chart, list(ins), list(shares), turns), tuple(map(ratio, now)))
                if turns:
                    mean = mean_shares_after(chart, ins, tuple(shares), turns)
                    self.assertEqual(mean, tuple(ratio(share / turns) for share in total))
                    # One turn changes the mean just by (p after n turns - p) / n.
                    changed = shares_after(chart, ins, mean, 1)
                    for one, two, last, first in zip(changed, mean, now, shares):
                        self.assertEqual(fraction(one) - fraction(two), (last - fraction(first)) / turns)
                total = [before + share for before, share in zip(total, now)]
                now = after_turn(table, now)

    def test_bounds(self):
        for rng, chart, _ in small_charts(53, 20):
            ins = rng.choice(all_ins(chart))
            table = slow_table(chart, ins)
            place = rng.randrange(len(table))
            post = posts_of(chart)[place]
            last = (0, 1)
            for turns in range(13):
                column = [row[place] for row in slow_power(table, turns)]
                bounds = bounds_after(chart, list(ins), list(post), turns)
                self.assertEqual(bounds, (ratio(min(column)), ratio(max(column))))
                # With one turn more the least never falls and the greatest never rises.
                least, greatest = map(fraction, bounds)
                self.assertTrue(last[0] <= least <= greatest <= last[1])
                last = (least, greatest)

    def test_bounds_draw_together(self):
        self.assertEqual([bounds_after(drawer(), (1,), (1,), turns) for turns in range(4)],
                         [(ZERO, ONE), (ZERO, HALF), ((1, 4), HALF), ((1, 4), (3, 8))])
        self.assertEqual(bounds_after(drawer(), (0,), (1,), 12), (ZERO, ONE))

    def test_numbers_of_turns(self):
        chart = drawer()
        shares = (HALF, HALF)
        self.assertEqual(shares_after(chart, (1,), shares, 0), shares)
        self.assertEqual(shares_after(chart, (1,), shares, 1), ((3, 4), (1, 4)))
        self.assertEqual(mean_shares_after(chart, (1,), shares, 1), shares)
        self.assertEqual(mean_shares_after(chart, (1,), shares, 2), ((5, 8), (3, 8)))
        for turns in [-1, 13, True, False, None, "1", 1.0, (1,), 10 ** 30]:
            for function, thing in [(shares_after, shares), (mean_shares_after, shares), (bounds_after, (0,))]:
                with self.assertRaises(BadTurns) as caught:
                    function(chart, (1,), thing, turns)
                self.assertEqual(caught.exception.turns, turns)
        with self.assertRaises(BadTurns):
            mean_shares_after(chart, (1,), shares, 0)
        self.assertEqual(len(shares_after(chart, (1,), shares, 12)), 2)
        self.assertEqual(len(mean_shares_after(chart, (1,), shares, 12)), 2)

    def test_refusals_in_order(self):
        for function in (shares_after, mean_shares_after, bounds_after):
            with self.assertRaises(BadIns):
                function(drawer(), (2,), None, None)
        with self.assertRaises(BadPost) as caught:
            bounds_after(drawer(), (0,), (0, 0), None)
        self.assertEqual(caught.exception.index, 1)


if __name__ == "__main__":
    unittest.main()
