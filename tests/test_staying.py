import unittest
from fractions import Fraction

from alreadytold.boxes import Box
from alreadytold.charts import Chart, posts_of
from alreadytold.errors import BadIns, BadLot, BadShares, BadTurns, BadWeights, NoRing, NotStaying
from alreadytold.rings import rings_every, rings_of
from alreadytold.staying import (lasting_posts, mixed_shares, mixture_of, own_shares, own_shares_every, shares_stay)
from samples import ODD_THINGS, after_turn, fraction, random_shares, ratio, slow_power, slow_table, small_charts

ZERO, ONE, HALF = (0, 1), (1, 1), (1, 2)
X, A, B = ("x", 2), ("a", 4), ("b", 2)


def two_rings():
    """Posts 1 and 2 are a ring of two beats, post 3 is a ring, post 0 leads to both."""
    return Chart([A], [Box(0, [A], [A], [[((1,), (1, 3)), ((3,), (2, 3))], (2,), (1,), (3,)])], ["a"])


class Own(unittest.TestCase):
    def test_against_the_words(self):
        several = 0
        for rng, chart, ins in small_charts(71, 60):
            table, posts, rings = slow_table(chart, ins), posts_of(chart), rings_of(chart, ins)
            several += len(rings) > 1
            for ring in rings:
                shuffled = [list(post) for post in ring] * 2
                rng.shuffle(shuffled)
                shares = [fraction(share) for share in own_shares(chart, list(ins), shuffled)]
                self.assertEqual(sum(shares), 1)
                self.assertEqual(after_turn(table, shares), shares)
                self.assertEqual({post for post, share in zip(posts, shares) if share > 0}, set(ring))
                self.assertGreaterEqual(min(shares), 0)
                if chart.is_sure:
                    self.assertEqual({share for share in shares if share}, {Fraction(1, len(ring))})
            self.assertEqual(lasting_posts(chart, ins), tuple(sorted(post for ring in rings for post in ring)))
        self.assertGreater(several, 10)

    def test_example(self):
        chart = two_rings()
        self.assertEqual(own_shares(chart, (), [[2], [1]]), (ZERO, HALF, HALF, ZERO))
        self.assertEqual(own_shares(chart, (), [(3,)]), (ZERO, ZERO, ZERO, ONE))
        self.assertEqual(lasting_posts(chart, ()), ((1,), (2,), (3,)))
        chart = Chart([B], [Box(0, [B], [B], [[((0,), HALF), ((1,), HALF)], (0,)])], [])
        self.assertEqual(own_shares(chart, (), posts_of(chart)), ((2, 3), (1, 3)))

    def test_refusals(self):
        chart = two_rings()
        with self.assertRaises(BadIns):
            own_shares(chart, (0,), None)
        with self.assertRaises(BadIns):
            lasting_posts(chart, (0,))
        for index, lot in [(0, None), (1, [(3,), 3])]:
            with self.assertRaises(BadLot) as caught:
                own_shares(chart, (), lot)
            self.assertEqual(caught.exception.index, index)
        for lot, told in [([], ()), ([(2,)], ((2,),)), ([(3,), (2,), (1,)], ((1,), (2,), (3,)))]:
            with self.assertRaises(NoRing) as caught:
                own_shares(chart, (), lot)
            self.assertEqual(caught.exception.lot, told)


class Every(unittest.TestCase):
    def test_against_powers(self):
        for _, chart, ins in small_charts(72, 30):
            table, posts = slow_table(chart, ins), posts_of(chart)
            for turns in [1, 2, 3, 4, 6]:
                power = slow_power(table, turns)
                lots = rings_every(chart, ins, turns)
                rows = own_shares_every(chart, list(ins), turns)
                self.assertEqual(len(rows), len(lots))
                for lot, row in zip(lots, rows):
                    shares = [fraction(share) for share in row]
                    self.assertEqual(sum(shares), 1)
                    self.assertEqual(after_turn(power, shares), shares)
                    self.assertEqual({post for post, share in zip(posts, shares) if share > 0}, set(lot))

    def test_example(self):
        chart = two_rings()
        self.assertEqual(own_shares_every(chart, (), 10 ** 30),
                         ((ZERO, ONE, ZERO, ZERO), (ZERO, ZERO, ONE, ZERO), (ZERO, ZERO, ZERO, ONE)))
        self.assertEqual(own_shares_every(chart, (), 10 ** 30 - 1), ((ZERO, HALF, HALF, ZERO), (ZERO, ZERO, ZERO, ONE)))

    def test_refusals(self):
        chart = two_rings()
        with self.assertRaises(BadIns):
            own_shares_every(chart, (0,), None)
        for turns in [0, -1, 10 ** 30 + 1, True, None, "1"]:
            with self.assertRaises(BadTurns) as caught:
                own_shares_every(chart, (), turns)
            self.assertEqual(caught.exception.turns, turns)


class Mixtures(unittest.TestCase):
    def test_there_and_back(self):
        refused = 0
        for rng, chart, ins in small_charts(73, 60):
            table, posts, rings = slow_table(chart, ins), posts_of(chart), rings_of(chart, ins)
            weights = random_shares(rng, len(rings))
            if len(rings) > 1 and rng.random() < 0.5:
                weights = [ZERO] + random_shares(rng, len(rings) - 1)
            own = [own_shares(chart, ins, ring) for ring in rings]
            expected = [sum((fraction(weight) * fraction(row[place]) for weight, row in zip(weights, own)), Fraction(0))
                        for place in range(len(posts))]
            shares = mixed_shares(chart, list(ins), list(weights))
            self.assertEqual(shares, tuple(map(ratio, expected)))
            self.assertIs(shares_stay(chart, ins, list(shares)), True)
            self.assertEqual(mixture_of(chart, list(ins), list(shares)), tuple(weights))
            others = random_shares(rng, len(posts), 3)
            now = [fraction(share) for share in others]
            changed = [post for post, one, two in zip(posts, now, after_turn(table, now)) if one != two]
            self.assertIs(shares_stay(chart, ins, others), not changed)
            if changed:
                refused += 1
                with self.assertRaises(NotStaying) as caught:
                    mixture_of(chart, ins, others)
                self.assertEqual(caught.exception.post, changed[0])
        self.assertGreater(refused, 20)

    def test_example(self):
        chart = two_rings()
        self.assertEqual(mixed_shares(chart, (), [(1, 3), (2, 3)]), (ZERO, (1, 6), (1, 6), (2, 3)))
        self.assertEqual(mixture_of(chart, (), [ZERO, (1, 6), (1, 6), (2, 3)]), ((1, 3), (2, 3)))
        for shares, post in [([ONE, ZERO, ZERO, ZERO], (0,)), ([ZERO, ONE, ZERO, ZERO], (1,)),
                             ([ZERO, (1, 3), HALF, (1, 6)], (1,))]:
            self.assertIs(shares_stay(chart, (), shares), False)
            with self.assertRaises(NotStaying) as caught:
                mixture_of(chart, (), shares)
            self.assertEqual(caught.exception.post, post)

    def test_bad_weights(self):
        chart = two_rings()

        def refuse(index, what, weights):
            with self.assertRaises(BadWeights) as caught:
                mixed_shares(chart, (), weights)
            self.assertEqual((caught.exception.index, caught.exception.what), (index, what))
        for weights in [None, [], [ONE], [ONE, ZERO, ZERO], "ab", {0: ONE, 1: ZERO}]:
            refuse(0, "many", weights)
        for thing in ODD_THINGS + [[1, 2], (2, 4)]:
            if thing != (1, 2) or isinstance(thing, list):
                refuse(1, "ratio", [ONE, thing])
        refuse(0, "less", [(-1, 1), None])
        refuse(1, "less", [(2, 1), (-1, 1)])
        refuse(0, "sum", [HALF, (1, 3)])
        refuse(0, "sum", [ONE, ONE])

    def test_refusals_in_order(self):
        chart = two_rings()
        for function in (mixed_shares, mixture_of, shares_stay):
            with self.assertRaises(BadIns):
                function(chart, (0,), None)
        for function in (mixture_of, shares_stay):
            for shares, index, what in [(None, 0, "many"), ([ONE] * 3, 0, "many"), ([ONE, 1, ZERO, ZERO], 1, "ratio"),
                                        ([ONE, (-1, 1), ONE, ZERO], 1, "less"), ([ONE] * 4, 0, "sum")]:
                with self.assertRaises(BadShares) as caught:
                    function(chart, (), shares)
                self.assertEqual((caught.exception.index, caught.exception.what), (index, what))


if __name__ == "__main__":
    unittest.main()
