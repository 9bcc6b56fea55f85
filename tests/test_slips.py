import random
import unittest
from fractions import Fraction

from alreadytold.boxes import Box
from alreadytold.charts import Chart, posts_of
from alreadytold.errors import BadIns, BadShares, BadSlip, BadTurns
from alreadytold.slips import check_slip, even_shares, slipped, turns_sum
from samples import (ODD_THINGS, after_turn, example, fraction, random_shares, ratio, slow_slipped, slow_table,
                     small_charts)

ZERO, ONE, HALF = (0, 1), (1, 1), (1, 2)
A, X = ("a", 3), ("x", 2)
SLIPS = [ONE, HALF, (1, 3), (1, 10 ** 9), (10 ** 99 - 1, 10 ** 99), (99, 100)]


class Slip(unittest.TestCase):
    def test_slips(self):
        for slip in SLIPS:
            self.assertEqual(check_slip(slip), slip)

    def test_no_slips(self):
        chart = example()
        for slip in ODD_THINGS + [ZERO, (-1, 2), (3, 2), (2, 1), [1, 2], (2, 4), (1, 0), (True, 2), (10 ** 9 + 1, 10 ** 9)]:
            if slip == (1, 2) and isinstance(slip, tuple):
                continue
            for function in (check_slip, lambda thing: slipped(chart, (), thing), lambda thing: turns_sum(chart, (), thing, 1)):
                with self.assertRaises(BadSlip) as caught:
                    function(slip)
                self.assertIs(caught.exception.slip, slip)

    def test_even(self):
        self.assertEqual(even_shares(example()), ((1, 3),) * 3)
        self.assertEqual(even_shares(Chart([X], [Box(0, [], [X], [(0,)])], [])), (ONE,))


class Lost(unittest.TestCase):
    def test_against_the_words(self):
        for rng, chart, ins in small_charts(331, 60):
            table = slow_table(chart, ins)
            many = len(table)
            for slip in [rng.choice(SLIPS), ratio(Fraction(rng.randint(1, 50), 50))]:
                begun = random_shares(rng, many)
                shares = slipped(chart, list(ins), slip, list(begun))
                p, u, e = [fraction(s) for s in shares], [fraction(s) for s in begun], fraction(slip)
                self.assertEqual(p, [e * one + (1 - e) * two for one, two in zip(u, after_turn(table, p))])
                self.assertEqual(sum(p), 1)
                self.assertEqual(shares, tuple(map(ratio, p)))
                even = slow_slipped(table, e, [Fraction(1, many)] * many)
                self.assertEqual(slipped(chart, ins, slip), tuple(map(ratio, even)))
                self.assertEqual(slipped(chart, ins, slip, None), slipped(chart, ins, slip, even_shares(chart)))

    def test_all_slips(self):
        for rng, chart, ins in small_charts(332, 20):
            begun = random_shares(rng, len(posts_of(chart)))
            self.assertEqual(slipped(chart, ins, ONE, begun), tuple(begun))
            self.assertEqual(slipped(chart, ins, ONE), even_shares(chart))

    def test_example(self):
        self.assertEqual(slipped(example(), (), HALF), ((1, 3), (1, 6), HALF))
        one = Chart([X], [Box(0, [], [X], [(0,)])], [])
        self.assertEqual(slipped(one, (), (1, 7)), (ONE,))

    def test_beginnings_of_zeros(self):
        self.assertEqual(slipped(example(), (), (1, 4), (ONE, ZERO, ZERO)), (ONE, ZERO, ZERO))
        self.assertEqual(slipped(example(), (), (1, 4), [ZERO, ONE, ZERO]), (ZERO, (1, 4), (3, 4)))

    def test_refusals_in_order(self):
        chart = Chart([X, A], [Box(0, [X, A], [A], [(0,), (2,), (2,)] * 2)], [])
        for ins, index in [(None, 0), ((), 0), ((2,), 0), ((True,), 0), ((0, 0), 1)]:
            with self.assertRaises(BadIns) as caught:
                slipped(chart, ins, None, 0)
            self.assertEqual(caught.exception.index, index)
        with self.assertRaises(BadSlip):
            slipped(chart, (0,), (2, 1), 0)
        for shares, index, what in [(0, 0, "many"), ([ONE] * 2, 0, "many"), ([ZERO, 1, ONE], 1, "ratio"),
                                    ([ZERO, (-1, 2), 0], 1, "less"), ([ONE] * 3, 0, "sum")]:
            with self.assertRaises(BadShares) as caught:
                slipped(chart, (0,), ONE, shares)
            self.assertEqual((caught.exception.index, caught.exception.what), (index, what))


class Sums(unittest.TestCase):
    def test_against_the_words(self):
        for rng, chart, ins in small_charts(333, 40):
            table = slow_table(chart, ins)
            begun = random_shares(rng, len(table))
            slip = rng.choice(SLIPS)
            e = fraction(slip)
            shares = [fraction(share) for share in begun]
            total = [Fraction(0)] * len(table)
            limit = [fraction(share) for share in slipped(chart, ins, slip, begun)]
            for turns in range(5):
                total = [one + e * (1 - e) ** turns * two for one, two in zip(total, shares)]
                shares = after_turn(table, shares)
                found = turns_sum(chart, list(ins), slip, turns, list(begun))
                self.assertEqual(found, tuple(map(ratio, total)))
                self.assertEqual(1 - sum(total), (1 - e) ** (turns + 1))
                self.assertTrue(all(one <= two for one, two in zip(total, limit)))

    def test_even_and_60_turns(self):
        for _, chart, ins in small_charts(334, 15):
            for slip in [HALF, (1, 10 ** 20), ONE]:
                found = turns_sum(chart, ins, slip, 60)
                self.assertEqual(found, turns_sum(chart, ins, slip, 60, even_shares(chart)))
                self.assertEqual(1 - sum(fraction(share) for share in found), (1 - fraction(slip)) ** 61)
                limit = slipped(chart, ins, slip)
                self.assertTrue(all(fraction(one) <= fraction(two) for one, two in zip(found, limit)))
                table = slow_table(chart, ins)
                more = turns_sum(chart, ins, slip, 59)
                e, u = fraction(slip), Fraction(1, len(table))
                after = after_turn(table, [fraction(share) for share in more])
                self.assertEqual([fraction(share) for share in found], [e * u + (1 - e) * share for share in after])

    def test_refusals_in_order(self):
        chart = Chart([X, A], [Box(0, [X, A], [A], [(0,), (2,), (2,)] * 2)], [])
        with self.assertRaises(BadIns):
            turns_sum(chart, (), None, None, 0)
        with self.assertRaises(BadSlip):
            turns_sum(chart, (0,), ZERO, None, 0)
        for turns in ODD_THINGS + [61, -1, True, False, (1, 1)]:
            if turns in (0, 1, 2) and not isinstance(turns, (bool, float)):
                continue
            with self.assertRaises(BadTurns) as caught:
                turns_sum(chart, (0,), ONE, turns, 0)
            self.assertIs(caught.exception.turns, turns)
        with self.assertRaises(BadShares):
            turns_sum(chart, (0,), ONE, 60, 0)


if __name__ == "__main__":
    unittest.main()
