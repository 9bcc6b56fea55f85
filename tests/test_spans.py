import unittest
from fractions import Fraction

from alreadytold.boxes import Box
from alreadytold.charts import Chart, posts_of
from alreadytold.errors import BadIns, BadOuts, BadShare, BadShares
from alreadytold.rings import rings_of
from alreadytold.spans import Span, outs_of, span_of_outs, staying_fault, staying_with
from alreadytold.staying import own_shares, shares_stay
from samples import ODD_THINGS, fillings, fraction, random_shares, ratio, slow_worked, small_charts

ZERO, ONE, HALF = (0, 1), (1, 1), (1, 2)
A, B = ("a", 4), ("b", 2)


def three_rings():
    """Posts 0, 1 and 3 are rings, post 2 leads to 3; b is drawn with unlike shares."""
    entries = [[((0, 0), (1, 3)), ((0, 1), (2, 3))], [((1, 0), (3, 4)), ((1, 1), (1, 4))], (3, 0),
               [((3, 0), (1, 3)), ((3, 1), (2, 3))]]
    return Chart([A, B], [Box(0, [A], [A, B], entries)], ["b"])


def slow_outs(chart, ins, shares):
    names = [name for name, _ in chart.wires]
    table = {}
    for post, share in zip(posts_of(chart), shares):
        for filling, _, part in slow_worked(chart, ins, post):
            outs = tuple(filling[names.index(name)] for name in chart.outs)
            table[outs] = table.get(outs, Fraction(0)) + fraction(share) * fraction(part)
    return {outs: share for outs, share in table.items() if share > 0}


def out_sizes(chart):
    return [dict(chart.wires)[name] for name in chart.outs]


class Outs(unittest.TestCase):
    def test_against_the_words(self):
        for rng, chart, ins in small_charts(81, 80):
            shares = random_shares(rng, len(posts_of(chart)))
            expected = slow_outs(chart, ins, shares)
            self.assertEqual(outs_of(chart, list(ins), list(shares)),
                             tuple((outs, ratio(expected[outs])) for outs in sorted(expected)))

    def test_told_letters_and_nothing_shown(self):
        chart = three_rings().with_outs(["a"])
        self.assertEqual(outs_of(chart, (), [ZERO, HALF, HALF, ZERO]), (((1,), HALF), ((2,), HALF)))
        self.assertEqual(outs_of(chart.with_outs([]), (), [ZERO, HALF, HALF, ZERO]), (((), ONE),))

    def test_refusals(self):
        with self.assertRaises(BadIns):
            outs_of(three_rings(), (0,), None)
        for shares, index, what in [(None, 0, "many"), ([ONE, 0, ZERO, ZERO], 1, "ratio"), ([ONE] * 4, 0, "sum")]:
            with self.assertRaises(BadShares) as caught:
                outs_of(three_rings(), (), shares)
            self.assertEqual((caught.exception.index, caught.exception.what), (index, what))


class Spans(unittest.TestCase):
    def test_against_the_words(self):
        wide = 0
        for rng, chart, ins in small_charts(82, 100):
            rings = rings_of(chart, ins)
            for outs in fillings(out_sizes(chart))[:4]:
                given = [slow_outs(chart, ins, own_shares(chart, ins, ring)).get(outs, Fraction(0)) for ring in rings]
                low, high = given.index(min(given)), given.index(max(given))
                expected = Span(ratio(min(given)), ratio(max(given)), rings[low], rings[high])
                self.assertEqual(span_of_outs(chart, list(ins), list(outs)), expected)
                wide += min(given) < max(given)
                for share in [min(given), max(given), (2 * min(given) + max(given)) / 3]:
                    shares = staying_with(chart, list(ins), list(outs), ratio(share))
                    self.assertTrue(shares_stay(chart, ins, shares))
                    self.assertEqual(slow_outs(chart, ins, shares).get(outs, Fraction(0)), share)
                    self.assertIsNone(staying_fault(chart, ins, list(outs), ratio(share), list(shares)))
                for share in [min(given) - Fraction(1, 10 ** 40), max(given) + Fraction(1, 10 ** 40), Fraction(-1), Fraction(2)]:
                    self.assertIsNone(staying_with(chart, ins, outs, ratio(share)))
        self.assertGreater(wide, 10)

    def test_first_rings(self):
        chart = three_rings()
        self.assertEqual(span_of_outs(chart, (), (0,)), Span((1, 3), (3, 4), ((0,),), ((1,),)))
        self.assertEqual(span_of_outs(chart, (), [1]), Span((1, 4), (2, 3), ((1,),), ((0,),)))
        self.assertEqual(span_of_outs(chart.with_outs([]), (), ()), Span(ONE, ONE, ((0,),), ((0,),)))

    def test_ends(self):
        chart = three_rings()
        self.assertEqual(staying_with(chart, (), (0,), (3, 4)), (ZERO, ONE, ZERO, ZERO))
        for share in [(1, 3), (5, 12), HALF, (3, 4)]:
            self.assertIsNone(staying_fault(chart, (), (0,), share, staying_with(chart, (), (0,), share)))
        for share in [(0, 1), (33, 100), (76, 100), (1, 1), (3, 2), (-1, 3)]:
            share = ratio(Fraction(*share))
            self.assertIsNone(staying_with(chart, (), (0,), share))

    def test_fault(self):
        chart = three_rings()
        for shares in ODD_THINGS + [[ONE], [ONE, ZERO, ZERO, 0], [ONE, (-1, 1), ONE, ZERO], [HALF] * 4]:
            self.assertEqual(staying_fault(chart, (), (0,), HALF, shares), "shares")
        self.assertEqual(staying_fault(chart, (), (0,), HALF, [ZERO, ZERO, ONE, ZERO]), "stays")
        self.assertEqual(staying_fault(chart, (), (0,), HALF, [ONE, ZERO, ZERO, ZERO]), "share")
        self.assertEqual(staying_fault(chart, (), [0], (1, 3), [ZERO, ZERO, ZERO, ONE]), None)
        self.assertEqual(staying_fault(chart, (), (0,), (3, 2), (ZERO, ZERO, ZERO, ONE)), "share")

    def test_refusals_in_order(self):
        chart = three_rings()
        for function in (span_of_outs, lambda *things: staying_with(*things, None),
                         lambda *things: staying_fault(*things, None, None)):
            with self.assertRaises(BadIns):
                function(chart, (0,), None)
            for thing in ODD_THINGS + [(2,), (0, 0), (True,)]:
                if thing != (1,) and thing != [1]:
                    with self.assertRaises(BadOuts) as caught:
                        function(chart, (), thing)
                    self.assertIs(caught.exception.outs, thing)
        for function in (staying_with, lambda *things: staying_fault(*things, None)):
            for thing in ODD_THINGS + [(2, 4), [1, 2]]:
                if thing != (1, 2) or isinstance(thing, list):
                    with self.assertRaises(BadShare) as caught:
                        function(chart, (), (0,), thing)
                    self.assertIs(caught.exception.share, thing)

    def test_result(self):
        thing = [1]
        span = Span(least=thing, greatest=2, low=3, high=4)
        self.assertIs(span.least, thing)
        self.assertTrue(span == Span([1], 2, 3, 4))
        self.assertFalse(span != Span([1], 2, 3, 4))
        for other in [Span(0, 2, 3, 4), Span([1], 0, 3, 4), Span([1], 2, 0, 4), Span([1], 2, 3, 0), ([1], 2, 3, 4)]:
            self.assertTrue(span != other)


if __name__ == "__main__":
    unittest.main()
