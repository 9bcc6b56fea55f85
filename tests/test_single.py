import random
import unittest
from fractions import Fraction

from alreadytold.boxes import Box
from alreadytold.charts import Chart, all_ins, posts_of
from alreadytold.errors import BadIns, BadPost, BadSlip
from alreadytold.leastslips import last_rings
from alreadytold.rings import rings_of
from alreadytold.seldom import seldom
from alreadytold.single import apart_lots, change_table, changes_of, differing_ins, single, single_slipped
from alreadytold.slips import slipped
from alreadytold.staying import mixture_of, shares_stay
from samples import (ODD_THINGS, after_turn, example, fillings, fraction, most_of_three, no_letters, random_chart, ratio,
                     ringed_charts, slow_changes, slow_closed, slow_ends, slow_own, slow_solve, slow_table, small_charts)

ZERO, ONE, HALF = (0, 1), (1, 1), (1, 2)
X, A = ("x", 2), ("a", 3)


def changing(posts):
    rows = []
    for post in posts:
        changes = slow_changes(posts, post)
        rows.append([Fraction(post2 in changes, len(changes)) for post2 in posts])
    return rows


def slow_single_slipped(table, change, slip):
    """[5.8]: the only shares with p = (1 - e) p M + e p S."""
    many = len(table)
    mixed = [[(1 - slip) * table[i][j] + slip * change[i][j] for j in range(many)] for i in range(many)]
    square = [[Fraction(i == j) - mixed[j][i] for j in range(many)] for i in range(many - 1)] + [[Fraction(1)] * many]
    return slow_solve(square, [[Fraction(0)] * (many - 1) + [Fraction(1)]])[0]


def some(seed, many):
    return list(small_charts(seed, many)) + list(ringed_charts(seed, many))


class Changes(unittest.TestCase):
    def test_against_the_words(self):
        for _, chart, _ in some(351, 15):
            posts = posts_of(chart)
            for post in posts:
                self.assertEqual(changes_of(chart, list(post)), tuple(slow_changes(posts, post)))

    def test_edges(self):
        self.assertEqual(changes_of(no_letters(), ()), ())
        self.assertEqual(changes_of(example(), (1,)), ((0,), (2,)))
        for post, index in [(None, 0), ((), 0), ((3,), 0), ((True,), 0), ((0, 0), 1)]:
            with self.assertRaises(BadPost) as caught:
                changes_of(example(), post)
            self.assertEqual(caught.exception.index, index)


class Slipped(unittest.TestCase):
    def test_against_the_words(self):
        for rng, chart, ins in some(352, 30):
            table, change = slow_table(chart, ins), changing(posts_of(chart))
            for slip in [(1, 3), (1, 10 ** 9), ratio(Fraction(rng.randint(1, 19), 20))]:
                shares = single_slipped(chart, list(ins), slip)
                p, e = [fraction(share) for share in shares], fraction(slip)
                self.assertEqual(shares, tuple(map(ratio, p)))
                self.assertEqual(sum(p), 1)
                turned, changed = after_turn(table, p), after_turn(change, p)
                self.assertEqual(p, [(1 - e) * one + e * two for one, two in zip(turned, changed)])
            self.assertEqual(set(single_slipped(chart, ins, ONE)), {(1, len(table))})

    def test_one_letter(self):
        rng = random.Random(353)
        for size in (2, 3, 4):
            wire = ("a", size)
            for _ in range(10):
                entries = [rng.choice([(rng.randrange(size),), [((0,), (1, 3)), ((1,), (2, 3))]]) for _ in range(size)]
                chart = Chart([wire], [Box(0, [wire], [wire], entries)], [])
                for e in [Fraction(1, 10 ** 9), Fraction(1, 3), Fraction(1)]:
                    other = ratio(e * size / (size - 1 + e))
                    self.assertEqual(single_slipped(chart, (), ratio(e)), slipped(chart, (), other))
                self.assertEqual(single(chart, ()), seldom(chart, ()))

    def test_no_letters(self):
        for slip in [ONE, (1, 7)]:
            self.assertEqual(single_slipped(no_letters(), (1,), slip), (ONE,))
        self.assertEqual(single(no_letters(), (0,)), (ONE,))
        self.assertEqual(change_table(no_letters(), (0,)), ((ONE,),))
        self.assertEqual(apart_lots(no_letters(), (0,)), ((0,),))
        self.assertEqual(differing_ins(no_letters()), ())

    def test_refusals_in_order(self):
        for chart in (no_letters(), Chart([X, A], [Box(0, [X, A], [A], [(0,), (2,), (2,)] * 2)], [])):
            for function in (single, change_table, apart_lots, lambda c, i: single_slipped(c, i, None)):
                for ins, index in [(None, 0), ((), 0), ((2,), 0), ((0, 0), 1)]:
                    with self.assertRaises(BadIns) as caught:
                        function(chart, ins)
                    self.assertEqual(caught.exception.index, index)
            for slip in ODD_THINGS + [ZERO, (3, 2), (2, 4), (-1, 2)]:
                if slip != (1, 2):
                    with self.assertRaises(BadSlip) as caught:
                        single_slipped(chart, (0,), slip)
                    self.assertIs(caught.exception.slip, slip)


class Single(unittest.TestCase):
    def test_where_single_slipped_goes(self):
        for _, chart, ins in some(354, 50):
            shares = single(chart, list(ins))
            self.assertEqual(sum(fraction(share) for share in shares), 1)
            self.assertTrue(shares_stay(chart, ins, shares))
            near = slow_single_slipped(slow_table(chart, ins), changing(posts_of(chart)), Fraction(1, 10 ** 30))
            self.assertLess(max(abs(one - fraction(two)) for one, two in zip(near, shares)), Fraction(1, 10 ** 20))
            weights = mixture_of(chart, ins, shares)
            self.assertEqual(tuple(k for k, weight in enumerate(weights) if weight != ZERO), last_rings(chart, ins))
            w, e = [fraction(weight) for weight in weights], change_table(chart, ins)
            self.assertEqual(w, after_turn([[fraction(share) for share in row] for row in e], w))

    def test_several_closed_lots(self):
        # Random majorities: rings far apart, so that one change never joins them.
        rng = random.Random(355)
        apart = deeper = 0
        while apart < 25:
            wires = [(name, 2) for name in "abcd"]
            entries = []
            for post in fillings([2] * 4):
                goal = max([(0, 0, 0, 0), (1, 1, 1, 1), (0, 0, 1, 1), (1, 1, 0, 0)],
                           key=lambda ring: (sum(p == q for p, q in zip(post, ring)), rng.random()))
                other = rng.choice(fillings([2] * 4)) if rng.random() < 0.1 else goal
                entries.append(goal if other == goal else [(goal, (2, 3)), (other, (1, 3))])
            chart = Chart(wires, [Box(0, wires, wires, entries)], [])
            if len(apart_lots(chart, ())) < 2:
                continue
            apart += 1
            shares = single(chart, ())
            near = slow_single_slipped(slow_table(chart, ()), changing(posts_of(chart)), Fraction(1, 10 ** 30))
            self.assertLess(max(abs(one - fraction(two)) for one, two in zip(near, shares)), Fraction(1, 10 ** 20))
            weights = mixture_of(chart, (), shares)
            self.assertEqual(tuple(k for k, weight in enumerate(weights) if weight != ZERO), last_rings(chart, ()))
            deeper += any(weight not in (ZERO, ONE, HALF, (1, len(weights))) for weight in weights)
        self.assertGreater(deeper, 3)

    def test_table_of_changes(self):
        for _, chart, ins in some(356, 40):
            posts, table = posts_of(chart), slow_table(chart, ins)
            lots, ends, change = slow_closed(table), slow_ends(table), changing(posts)
            expected = []
            for lot in lots:
                changed = after_turn(change, slow_own(table, lot))
                expected.append(tuple(ratio(sum(share * row[k] for share, row in zip(changed, ends))) for k in range(len(lots))))
            self.assertEqual(change_table(chart, list(ins)), tuple(expected))
            numbers = [[fraction(share) for share in row] for row in expected]
            self.assertEqual(list(apart_lots(chart, list(ins))), slow_closed(numbers))

    def test_examples(self):
        self.assertEqual(change_table(example(), ()), ((ZERO, ONE), (HALF, HALF)))
        self.assertEqual(single(example(), ()), ((1, 3), ZERO, (2, 3)))
        self.assertEqual(apart_lots(example(), ()), ((0, 1),))
        chart = most_of_three()
        self.assertEqual(rings_of(chart, ()), (((0, 0, 0),), ((1, 1, 1),)))
        self.assertEqual(change_table(chart, ()), ((ONE, ZERO), (ZERO, ONE)))
        self.assertEqual(apart_lots(chart, ()), ((0,), (1,)))
        self.assertEqual(single(chart, ()), (HALF, ZERO, ZERO, ZERO, ZERO, ZERO, ZERO, HALF))

    def test_one_closed_lot_leaves_a_ring_out(self):
        # From ring 0 one change may lead to ring 3, but no single change leads back.
        wires = [("a", 2), ("b", 2)]
        entries = [(0, 0), (1, 1), (0, 0), (1, 1)]
        chart = Chart(wires, [Box(0, wires, wires, entries)], [])
        self.assertEqual(apart_lots(chart, ()), ((0, 1),))
        wires = [("a", 4), ("b", 2)]
        entries = [(0, 0), (3, 1), (3, 1), (3, 1), (3, 1), (3, 1), (3, 1), (3, 1)]
        chart = Chart(wires, [Box(0, wires, wires, entries)], [])
        self.assertEqual(apart_lots(chart, ()), ((1,),))
        self.assertEqual(single(chart, ()), (ZERO,) * 7 + (ONE,))
        self.assertNotEqual(seldom(chart, ()), single(chart, ()))

    def test_differing_ins(self):
        rng = random.Random(357)
        seen = 0
        for _ in range(25):
            chart = random_chart(rng, chance=rng.choice([0.0, 0.3]), wires=5)
            if len(posts_of(chart)) > 12:
                continue
            expected = tuple(ins for ins in all_ins(chart) if seldom(chart, ins) != single(chart, ins))
            self.assertEqual(differing_ins(chart), expected)
            seen += len(expected)
            if len(chart.letters) < 2:
                self.assertEqual(expected, ())
        for _, chart, _ in ringed_charts(357, 25):
            expected = tuple(ins for ins in all_ins(chart) if seldom(chart, ins) != single(chart, ins))
            self.assertEqual(differing_ins(chart), expected)
            seen += len(expected)
        self.assertGreater(seen, 3)


if __name__ == "__main__":
    unittest.main()
