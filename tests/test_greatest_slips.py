"""The greatest inputs for slips, seldom and single shares, counts and least slips: exact and soon."""

import random
import time
import unittest
from fractions import Fraction

from alreadytold.boxes import Box
from alreadytold.charts import Chart
from alreadytold.counts import Counts
from alreadytold.drawing import all_in, counts_of, draw_all
from alreadytold.leastslips import changes_needed, last_rings, least_slips, slip_way, tree_costs, way_fault
from alreadytold.onebox import one_box, one_box_fault
from alreadytold.seldom import ends_table, lean, near_seldom, ring_weights, seldom
from alreadytold.single import apart_lots, change_table, differing_ins, single, single_slipped
from alreadytold.slips import slipped, turns_sum
from alreadytold.staying import mixture_of, own_shares, shares_stay
from alreadytold.surroundings import counts_around
from samples import fillings, fraction
from test_greatest import LONG, POSTS, WIRES, long_shares, post_chart, sum_in_one

ZERO, ONE = (0, 1), (1, 1)
PRIME = (1 << 127) - 1
SLIP = (LONG * 10 - 1, LONG * 10)


def small(ratio):
    """The ratio by a modulus, so that equations of long numbers are soon checked."""
    return ratio[0] * pow(ratio[1], -1, PRIME) % PRIME


def turned(table, shares):
    return [sum(share * row[j] for share, row in zip(shares, table)) % PRIME for j in range(len(table))]


def parted_chart(rng, sizes):
    """64 posts: rings of these sizes, and all other posts lead to 8 others by long shares."""
    leads, shares, first = [], [], 0
    for size in sizes:
        for place in range(size):
            goals = {first + (place + 1) % size} | set(rng.sample(range(first, first + size), min(size, 5)))
            leads.append(sorted(goals))
        first += size
    leads += [sorted(rng.sample(range(64), 8)) for _ in range(first, 64)]
    shares = [long_shares(rng, len(goals)) if len(goals) > 1 else [ONE] for goals in leads]
    table = [[0] * 64 for _ in range(64)]
    for number, goals in enumerate(leads):
        for goal, share in zip(goals, shares[number]):
            table[number][goal] = small(share)
    return post_chart(leads, shares), table


class Soon(unittest.TestCase):
    def setUp(self):
        self.begun = time.time()

    def tearDown(self):
        self.assertLess(time.time() - self.begun, 120)

    def test_slipped(self):
        rng = random.Random(401)
        chart, table = parted_chart(rng, [30])
        for slip in [SLIP, (1, LONG * 10)]:
            begun = long_shares(rng, 64)
            shares = slipped(chart, (), slip, begun)
            p, u, e = list(map(small, shares)), list(map(small, begun)), small(slip)
            self.assertEqual(p, [(e * a + (1 - e) * b) % PRIME for a, b in zip(u, turned(table, p))])
            self.assertEqual(sum_in_one(shares), 1)

    def test_sum_of_60_turns(self):
        rng = random.Random(402)
        begun = long_shares(rng, 64)
        leads = [[rng.randrange(64)] for _ in range(64)]
        sure = post_chart(leads)
        table = [[int(j in goals) for j in range(64)] for goals in leads]
        long, long_table = parted_chart(rng, [6, 4, 54])
        for chart, table, turns in [(sure, table, 60), (long, long_table, 60)]:
            shares = turns_sum(chart, (), SLIP, turns, begun)
            e, row = small(SLIP), list(map(small, begun))
            total = [0] * 64
            for power in range(turns + 1):
                total = [(a + e * pow(1 - e, power, PRIME) * b) % PRIME for a, b in zip(total, row)]
                row = turned(table, row)
            self.assertEqual(list(map(small, shares)), total)
        shares = turns_sum(sure, (), SLIP, 60, begun)
        self.assertEqual(1 - sum_in_one(shares), (1 - Fraction(*SLIP)) ** 61)

    def test_ends_and_seldom(self):
        rng = random.Random(403)
        for sizes in [[20, 20], [1] * 32, [10, 10, 10, 10], [64]]:
            chart, table = parted_chart(rng, sizes)
            begun = long_shares(rng, 64)
            u = list(map(small, begun))
            ends = [list(map(small, row)) for row in ends_table(chart, ())]
            for number, row in enumerate(ends):
                mean = [sum(table[number][k] * ends[k][r] for k in range(64)) % PRIME for r in range(len(sizes))]
                self.assertEqual(row, mean)
                self.assertEqual(sum(row) % PRIME, 1)
            weights = ring_weights(chart, (), begun)
            self.assertEqual(list(map(small, weights)),
                             [sum(a * row[r] for a, row in zip(u, ends)) % PRIME for r in range(len(sizes))])
            shares = seldom(chart, (), begun)
            self.assertTrue(shares_stay(chart, (), shares))
            self.assertEqual(mixture_of(chart, (), shares), weights)
            d, s = list(map(small, lean(chart, (), begun))), list(map(small, shares))
            self.assertEqual(d, [(a - b + c) % PRIME for a, b, c in zip(u, s, turned(table, d))])
            for r in range(len(sizes)):
                self.assertEqual(sum(number * row[r] for number, row in zip(d, ends)) % PRIME, 0)

    def test_near(self):
        rng = random.Random(404)
        chart, _ = parted_chart(rng, [20, 20])
        begun = long_shares(rng, 64)
        number = near_seldom(chart, (), (1, 10 ** 6), begun)
        goal = [fraction(share) for share in seldom(chart, (), begun)]
        apart = [max(abs(fraction(a) - b) for a, b in zip(slipped(chart, (), (1, n), begun), goal))
                 for n in (number // 2, number)]
        self.assertTrue(apart[1] <= Fraction(1, 10 ** 6) < apart[0])
        # Where each post is left once in 10 ** 99 turns.
        rest = (LONG * 10 - 1, LONG * 10)
        chart = post_chart([[0]] + [[k - 1, k] for k in range(1, 64)], [[ONE]] + [[(1, LONG * 10), rest]] * 63)
        self.assertGreater(near_seldom(chart, (), (1, 10 ** 6)), LONG * 10)

    def test_single(self):
        rng = random.Random(405)
        for sizes in [[64], [20, 20], [1] * 32, [1] * 64]:
            chart, table = parted_chart(rng, sizes)
            change = [[0] * 64 for _ in range(64)]
            for i in range(64):
                for bit in range(6):
                    change[i][i ^ 1 << bit] = small((1, 6))
            e = small((1, LONG * 10))
            p = list(map(small, single_slipped(chart, (), (1, LONG * 10))))
            self.assertEqual(p, [((1 - e) * a + e * b) % PRIME for a, b in zip(turned(table, p), turned(change, p))])
            shares = single(chart, ())
            self.assertTrue(shares_stay(chart, (), shares))
            weights = mixture_of(chart, (), shares)
            self.assertEqual(tuple(r for r, weight in enumerate(weights) if weight != ZERO), last_rings(chart, ()))
            changes = [list(map(small, row)) for row in change_table(chart, ())]
            self.assertEqual(turned(changes, list(map(small, weights))), list(map(small, weights)))
            if len(apart_lots(chart, ())) == 1:
                self.assertEqual(min(tree_costs(chart, ())), len(sizes) - 1)
            self.assertEqual(differing_ins(chart), ((),) if seldom(chart, ()) != shares else ())

    def test_six_rings_far_apart(self):
        # Posts go to the nearest of six rings, so that only several changes lead from one to another.
        rings = [(0, 0, 0, 0, 0, 0), (1, 1, 1, 1, 1, 1), (0, 0, 0, 1, 1, 1), (1, 1, 1, 0, 0, 0), (0, 1, 1, 0, 0, 1),
                 (1, 0, 0, 1, 1, 0)]
        leads = [[POSTS.index(min(rings, key=lambda ring: sum(a != b for a, b in zip(ring, post))))] for post in POSTS]
        chart = post_chart(leads)
        slips = least_slips(chart, ())
        self.assertEqual(len(slips), 6)
        self.assertGreater(len(apart_lots(chart, ())), 1)
        self.assertEqual(mixture_of(chart, (), single(chart, ()))[last_rings(chart, ())[0]] == ZERO, False)
        for post in rings:
            self.assertEqual(changes_needed(chart, (), post)[POSTS.index(post)], 0)
            for goal in rings:
                self.assertIsNone(way_fault(chart, (), post, goal, slip_way(chart, (), post, goal)))

    def test_six_chance_boxes(self):
        rng = random.Random(406)
        boxes = []
        for wire in WIRES:
            entries = []
            for _ in range(64):
                top = rng.randrange(1, 10 ** 40)
                share = Fraction(top, 10 ** 40)
                entries.append([((0,), (share.numerator, share.denominator)),
                                ((1,), ((1 - share).numerator, (1 - share).denominator))])
            boxes.append(Box(0, WIRES, [wire], entries))
        chart = Chart(WIRES, boxes, [])
        self.assertEqual(single(chart, ()), own_shares(chart, (), POSTS))
        self.assertEqual(sum_in_one(slipped(chart, (), SLIP)), 1)

    def test_counts(self):
        ins, letters = [("p", 4), ("q", 4), ("r", 4)], WIRES
        boxes = []
        for k in range(3):
            takes = [ins[k]] + letters[:4] + [letters[5]]
            makes = letters[2 * k:2 * k + 2]
            boxes.append(Box(0, takes, makes, [[(row, (1, 4)) for row in fillings([2, 2])]] * 128))
        chart = Chart(ins + letters, boxes, [name for name, _ in letters])
        counts = counts_of(chart, [])
        self.assertEqual(len(counts.rows), 64 * 64 * 64 // 2)
        drawn = draw_all(counts, chart.letters)
        self.assertEqual(drawn, all_in(chart))
        self.assertEqual({row[2] for row in drawn.rows}, {1})
        around = Chart(letters + ins[:1], [Box(0, letters, ins[:1], [(3,)] * 64)], ["p"])
        with self.assertRaises(ValueError):
            counts_around(chart, Chart(letters, [Box(0, [], letters[:1], [(0,)])], []))
        self.assertEqual(sum(row[2] for row in counts_around(chart, around).rows), 16 * 64)

    def test_one_box(self):
        wires = [("a", 4), ("b", 4), ("c", 4)]
        rows = [((x,), outs, 1) for x in range(4) for outs in fillings([4, 4, 4])]
        counts = Counts([("x", 4)], [], wires, rows)
        self.assertIsNone(one_box_fault(counts, one_box(counts)))
        self.assertEqual(len(one_box(counts).letters), 3)


if __name__ == "__main__":
    unittest.main()
