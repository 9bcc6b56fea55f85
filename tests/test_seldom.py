import random
import unittest
from fractions import Fraction

from alreadytold.boxes import Box
from alreadytold.charts import Chart, posts_of
from alreadytold.errors import BadIns, BadNear, BadPost, BadShares
from alreadytold.nearing import is_surely_near
from alreadytold.rings import rings_of
from alreadytold.scaling import whole_rows
from alreadytold.seldom import ends_in, ends_table, lean, near_seldom, ring_weights, seldom
from alreadytold.slips import even_shares, slipped
from alreadytold.staying import mixed_shares, shares_stay
from alreadytold.turning import turning_table
from samples import (ODD_THINGS, after_turn, example, fraction, random_shares, ratio, ringed_charts, slow_closed, slow_ends, slow_own,
                     slow_slipped, slow_table, small_charts)

ZERO, ONE, HALF = (0, 1), (1, 1), (1, 2)
A, X = ("a", 3), ("x", 2)


def drifting():
    """Posts 0 and 3 are rings, 1 and 2 drift between all, and 2 may stay."""
    wire = ("a", 4)
    entries = [(0,), [((0,), (1, 3)), ((2,), (2, 3))], [((1,), (1, 4)), ((2,), HALF), ((3,), (1, 4))], (3,)]
    return Chart([wire], [Box(0, [wire], [wire], entries)], [])


def around(number, most):
    """The nearest fractions with bottoms up to most on both sides of a number: its last two convergents."""
    found = [(0, 1), (1, 0)]
    rest = number
    while found[-1][1] <= most:
        whole = rest.numerator // rest.denominator
        found.append((whole * found[-1][0] + found[-2][0], whole * found[-1][1] + found[-2][1]))
        rest = 1 / (rest - whole)
    return sorted(Fraction(top, bottom) for top, bottom in found[-3:-1])


def slow_seldom(table, begun):
    ends = slow_ends(table)
    shares = [Fraction(0)] * len(table)
    for index, lot in enumerate(slow_closed(table)):
        weight = sum(share * row[index] for share, row in zip(begun, ends))
        shares = [one + weight * two for one, two in zip(shares, slow_own(table, lot))]
    return shares


class Ends(unittest.TestCase):
    def test_against_the_words(self):
        several = mixed = 0
        for rng, chart, ins in list(small_charts(341, 40)) + list(ringed_charts(341, 40)):
            expected = [tuple(map(ratio, row)) for row in slow_ends(slow_table(chart, ins))]
            several += len(expected[0]) > 1
            mixed += any(0 < fraction(share) < 1 for row in expected for share in row)
            self.assertEqual(ends_table(chart, list(ins)), tuple(expected))
            for post, row in zip(posts_of(chart), expected):
                self.assertEqual(ends_in(chart, list(ins), list(post)), row)
                self.assertEqual(sum(map(fraction, row)), 1)
            begun = random_shares(rng, len(expected))
            weights = [sum(fraction(share) * fraction(row[k]) for share, row in zip(begun, expected))
                       for k in range(len(expected[0]))]
            self.assertEqual(ring_weights(chart, ins, begun), tuple(map(ratio, weights)))
            self.assertEqual(ring_weights(chart, ins), ring_weights(chart, ins, even_shares(chart)))
            for slip in [(1, 7), (1, 10 ** 9), ONE]:
                self.assertEqual(ring_weights(chart, ins, slipped(chart, ins, slip, begun)), tuple(map(ratio, weights)))
        self.assertGreater(several, 20)
        self.assertGreater(mixed, 5)

    def test_example(self):
        self.assertEqual(ends_table(example(), ()), ((ONE, ZERO), (ZERO, ONE), (ZERO, ONE)))
        self.assertEqual(ends_table(drifting(), ()), ((ONE, ZERO), (HALF, HALF), ((1, 4), (3, 4)), (ZERO, ONE)))
        self.assertEqual(ends_in(drifting(), (), (2,)), ((1, 4), (3, 4)))
        self.assertEqual(ring_weights(drifting(), ()), ((7, 16), (9, 16)))
        self.assertEqual(ring_weights(drifting(), (), [ZERO, ZERO, ONE, ZERO]), ((1, 4), (3, 4)))

    def test_refusals(self):
        chart = Chart([X, A], [Box(0, [X, A], [A], [(0,), (2,), (2,)] * 2)], [])
        for function in (ends_in, ring_weights, seldom, lean):
            for ins, index in [(None, 0), ((), 0), ((0, 1), 1), ((2,), 0)]:
                with self.assertRaises(BadIns) as caught:
                    function(chart, ins, 0)
                self.assertEqual(caught.exception.index, index)
        with self.assertRaises(BadIns):
            ends_table(chart, (True,))
        for post, index in [(0, 0), ((), 0), ((3,), 0), ((0, 0), 1)]:
            with self.assertRaises(BadPost) as caught:
                ends_in(chart, (0,), post)
            self.assertEqual(caught.exception.index, index)
        for function in (ring_weights, seldom, lean, lambda c, i, b: near_seldom(c, i, ONE, b)):
            for shares, index, what in [(0, 0, "many"), ([ONE, ONE, 1], 2, "ratio"), ([(-1, 2), 0, 0], 0, "less"),
                                        ([ONE, ONE, ONE], 0, "sum")]:
                with self.assertRaises(BadShares) as caught:
                    function(chart, (0,), shares)
                self.assertEqual((caught.exception.index, caught.exception.what), (index, what))


class Seldom(unittest.TestCase):
    def test_against_the_words(self):
        stayed = 0
        for rng, chart, ins in list(small_charts(342, 40)) + list(ringed_charts(342, 40)):
            table = slow_table(chart, ins)
            begun = random_shares(rng, len(table))
            shares = seldom(chart, list(ins), list(begun))
            self.assertEqual(shares, tuple(map(ratio, slow_seldom(table, [fraction(share) for share in begun]))))
            self.assertTrue(shares_stay(chart, ins, shares))
            self.assertEqual(shares, mixed_shares(chart, ins, ring_weights(chart, ins, begun)))
            self.assertEqual(seldom(chart, ins), seldom(chart, ins, even_shares(chart)))
            self.assertEqual(seldom(chart, ins, shares), shares)
            stayed += shares_stay(chart, ins, begun)
            self.assertEqual(shares == tuple(begun), shares_stay(chart, ins, begun))
            # The slipped shares go there.
            near = slow_slipped(table, Fraction(1, 10 ** 12), [fraction(share) for share in begun])
            self.assertLess(max(abs(one - fraction(two)) for one, two in zip(near, shares)), Fraction(1, 10 ** 8))
        self.assertLess(stayed, 80)

    def test_example(self):
        self.assertEqual(seldom(example(), ()), ((1, 3), ZERO, (2, 3)))
        self.assertEqual(seldom(drifting(), (), [ZERO, ZERO, ONE, ZERO]), ((1, 4), ZERO, ZERO, (3, 4)))


class Near(unittest.TestCase):
    def first(self, table, begun, within):
        goal = slow_seldom(table, begun)
        number = 1
        while True:
            shares = slow_slipped(table, Fraction(1, number), begun)
            if max(abs(one - two) for one, two in zip(shares, goal)) <= within:
                return number
            number *= 2

    def test_against_the_words(self):
        seen = set()
        for rng, chart, ins in list(small_charts(343, 20)) + list(ringed_charts(343, 20)):
            table = slow_table(chart, ins)
            begun = random_shares(rng, len(table))
            for within in [ratio(Fraction(1, rng.randint(2, 30))), (1, 10 ** rng.randint(2, 6))]:
                expected = self.first(table, [fraction(share) for share in begun], fraction(within))
                self.assertEqual(near_seldom(chart, list(ins), within, begun), expected)
                seen.add(expected)
            self.assertEqual(near_seldom(chart, ins, within), near_seldom(chart, ins, within, even_shares(chart)))
        self.assertGreater(len(seen), 8)

    def test_just_met(self):
        for rng, chart, ins in list(small_charts(344, 10)) + list(ringed_charts(344, 15)):
            table = slow_table(chart, ins)
            begun = random_shares(rng, len(table))
            u = [fraction(share) for share in begun]
            goal = slow_seldom(table, u)
            number = 2 ** rng.randint(0, 12)
            shares = slow_slipped(table, Fraction(1, number), u)
            apart = max(abs(one - two) for one, two in zip(shares, goal))
            if apart == 0:
                self.assertEqual(near_seldom(chart, ins, (1, 10 ** 6), begun), 1)
                continue
            for within in [apart, apart * (1 - Fraction(1, 10 ** 60)), apart * (1 + Fraction(1, 10 ** 60))]:
                if within >= Fraction(1, 10 ** 6):
                    self.assertEqual(near_seldom(chart, ins, ratio(within), begun), self.first(table, u, within))

    def test_too_close_for_rounded_shares(self):
        # Post 1 is left with a share of 100 figures; the nearness is just below or above what lacks at 1/64.
        top = random.Random(345).randrange(10 ** 98, 10 ** 99)
        leaves = Fraction(top, 10 ** 99 + 7)
        shares = [((0,), ratio(leaves)), ((1,), ratio(1 - leaves))]
        chart = Chart([("a", 2)], [Box(0, [("a", 2)], [("a", 2)], [(0,), shares])], [])
        rows = whole_rows(turning_table(chart, ()))
        apart = fraction(slipped(chart, (), (1, 64))[1])
        below, above = around(apart, 10 ** 98)
        self.assertTrue(below < apart < above)
        for within, expected in [(below, 128), (above, 64), (apart, 64)]:
            self.assertIsNone(is_surely_near(rows, even_shares(chart), seldom(chart, ()), 6, ratio(within)))
            self.assertEqual(near_seldom(chart, (), ratio(within)), expected)

    def test_example(self):
        # 1/3 at the slip 1, where the nearness is just met, and then 1/3 of the slip.
        self.assertEqual(near_seldom(example(), (), (1, 3)), 1)
        self.assertEqual(near_seldom(example(), (), (1, 6)), 2)
        self.assertEqual(near_seldom(example(), (), (1, 7)), 4)
        self.assertEqual(near_seldom(example(), (), (7, 2)), 1)
        self.assertEqual(near_seldom(example(), (), (1, 3 * 2 ** 18)), 2 ** 18)
        less = ratio(Fraction(10 ** 60 - 1, 3 * 2 ** 18 * 10 ** 60))
        self.assertEqual(near_seldom(example(), (), less), 2 ** 19)

    def test_not_always_nearer(self):
        # From 1 half goes to 3, which is left seldom: the shares come near, go off and come back.
        wire = ("a", 4)
        entries = [(0,), [((0,), HALF), ((3,), HALF)], (2,), [((2,), (1, 1000)), ((3,), (999, 1000))]]
        chart = Chart([wire], [Box(0, [wire], [wire], entries)], [])
        for within in [(1, 3), (1, 4), (1, 5), (1, 100), (1, 10 ** 6)]:
            for begun in [[ZERO, ONE, ZERO, ZERO], [HALF, ZERO, (1, 3), (1, 6)]]:
                table = slow_table(chart, ())
                expected = self.first(table, [fraction(share) for share in begun], fraction(within))
                self.assertEqual(near_seldom(chart, (), within, begun), expected)

    def test_far_on(self):
        wire = ("a", 2)
        entries = [[((0,), (10 ** 99 - 1, 10 ** 99)), ((1,), (1, 10 ** 99))], (1,)]
        chart = Chart([wire], [Box(0, [wire], [wire], entries)], [])
        number = near_seldom(chart, (), (1, 10 ** 6))
        before = slow_slipped(slow_table(chart, ()), Fraction(2, number), [Fraction(1, 2)] * 2)
        after = slow_slipped(slow_table(chart, ()), Fraction(1, number), [Fraction(1, 2)] * 2)
        self.assertEqual(number, 1 << (number.bit_length() - 1))
        self.assertTrue(after[0] <= Fraction(1, 10 ** 6) < before[0])
        self.assertGreater(number, 10 ** 100)

    def test_refusals_in_order(self):
        chart = Chart([X, A], [Box(0, [X, A], [A], [(0,), (2,), (2,)] * 2)], [])
        with self.assertRaises(BadIns):
            near_seldom(chart, (), None, 0)
        for within in ODD_THINGS + [ZERO, (-1, 2), [1, 2], (2, 4), (0, 2)]:
            if within == (1, 2) and isinstance(within, tuple):
                continue
            with self.assertRaises(BadNear) as caught:
                near_seldom(chart, (0,), within, 0)
            self.assertIs(caught.exception.within, within)


class Lean(unittest.TestCase):
    def test_by_its_own_equations(self):
        moved = 0
        for rng, chart, ins in list(small_charts(345, 40)) + list(ringed_charts(345, 60)):
            table = slow_table(chart, ins)
            many = len(table)
            begun = random_shares(rng, many)
            if rng.random() < 0.2:
                begun = seldom(chart, ins, begun)
            row = lean(chart, list(ins), list(begun))
            d, u = [fraction(number) for number in row], [fraction(share) for share in begun]
            self.assertEqual(row, tuple(map(ratio, d)))
            goal = slow_seldom(table, u)
            self.assertEqual(d, [one - two + three for one, two, three in zip(u, goal, after_turn(table, d))])
            for index in range(len(rings_of(chart, ins))):
                self.assertEqual(sum(number * ends[index] for number, ends in zip(d, slow_ends(table))), 0)
            self.assertEqual(not any(d), shares_stay(chart, ins, begun))
            moved += any(d)
            self.assertEqual(lean(chart, ins), lean(chart, ins, even_shares(chart)))
            e = Fraction(1, 10 ** 20)
            near = slow_slipped(table, e, u)
            self.assertLess(max(abs((one - two) / e - three) for one, two, three in zip(near, goal, d)), Fraction(1, 10 ** 9))
        self.assertGreater(moved, 40)

    def test_example(self):
        self.assertEqual(lean(example(), ()), (ZERO, (1, 3), (-1, 3)))
        self.assertEqual(lean(example(), (), [HALF, ZERO, HALF]), (ZERO, ZERO, ZERO))


if __name__ == "__main__":
    unittest.main()
