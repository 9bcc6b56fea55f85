"""[4.10]: one changed entry of one box, and two charts joined."""

import random
import unittest
from math import gcd

from alreadytold.along import renamed_chart
from alreadytold.boxes import Box
from alreadytold.charts import Chart, all_ins, posts_of
from alreadytold.joining import joined_charts
from alreadytold.rings import beats_of, rings_of
from alreadytold.staying import own_shares
from samples import fillings, fraction, random_chart, random_entry, ratio


class OneEntry(unittest.TestCase):
    def test_rings_without_the_post_stay(self):
        rng = random.Random(91)
        came = 0
        for number in range(120):
            wires = [("x", 2), ("a", 2), ("b", rng.choice([2, 3, 4]))]
            makes = wires[1:]
            sizes = [size for _, size in wires]
            chance = 0.4 if number % 2 else 0.0
            entries = [random_entry(rng, sizes[1:], chance) for _ in fillings(sizes)]
            chart = Chart(wires, [Box(0, wires, makes, entries)], [])
            ins, post = rng.choice(all_ins(chart)), rng.choice(posts_of(chart))
            entry = random_entry(rng, sizes[1:], chance)
            other = chart.with_box(0, chart.boxes[0].with_entry(ins + post, entry))
            before, after = rings_of(chart, ins), rings_of(other, ins)
            for ring in before:
                if post not in ring:
                    self.assertIn(ring, after)
                    self.assertEqual(own_shares(chart, ins, ring), own_shares(other, ins, ring))
            new = [ring for ring in after if ring not in before]
            self.assertLessEqual(len(new), 1)
            for ring in new:
                came += 1
                self.assertIn(post, ring)
        self.assertGreater(came, 10)


class Joined(unittest.TestCase):
    def small(self, rng, names):
        if rng.random() < 0.4:
            size = rng.choice([2, 3, 4])
            wire = (names[0], size)
            return Chart([wire], [Box(0, [wire], [wire], [((worth + 1) % size,) for worth in range(size)])], [])
        while True:
            chart = random_chart(rng, chance=rng.choice([0.0, 0.3]), wires=3)
            if 2 <= len(posts_of(chart)) <= 8:
                old = [name for name, _ in chart.wires]
                return renamed_chart(chart.with_outs([]), list(zip(old, names)))

    def test_rings_of_both(self):
        rng = random.Random(92)
        parts = 0
        for _ in range(40):
            one, other = self.small(rng, ["p", "q", "r"]), self.small(rng, ["s", "t", "u"])
            both = joined_charts(one, other)
            ins, ins2 = rng.choice(all_ins(one)), rng.choice(all_ins(other))
            expected = {}
            for ring in rings_of(one, ins):
                for ring2 in rings_of(other, ins2):
                    many = gcd(len(beats_of(one, ins, ring)), len(beats_of(other, ins2, ring2)))
                    parts += many > 1
                    posts = {post + post2 for post in ring for post2 in ring2}
                    own, own2 = own_shares(one, ins, ring), own_shares(other, ins2, ring2)
                    products = [fraction(share) * fraction(share2) * many for share in own for share2 in own2]
                    expected[frozenset(posts)] = (many, products)
            found = {key: [] for key in expected}
            for ring in rings_of(both, ins + ins2):
                key = next(posts for posts in expected if ring[0] in posts)
                self.assertLessEqual(set(ring), key)
                found[key].append(ring)
                own = own_shares(both, ins + ins2, ring)
                self.assertEqual(own, tuple(ratio(share if post in ring else 0)
                                            for post, share in zip(posts_of(both), expected[key][1])))
            for key, rings in found.items():
                self.assertEqual(len(rings), expected[key][0])
        self.assertGreater(parts, 3)


if __name__ == "__main__":
    unittest.main()
