"""The greatest inputs for weighed stories, guesses, plans, edits and goals: exact and soon."""

import random
import time
import unittest
from fractions import Fraction

from alreadytold.bench import Bench
from alreadytold.boxes import Box
from alreadytold.changes import check_edits, edited_chart
from alreadytold.charts import Chart, all_ins, posts_of
from alreadytold.dayings import Lettering, fewest_letters, with_days
from alreadytold.guesses import answers_of, fitting_charts, hidden_entries
from alreadytold.mends import find_mends, find_spoilers, goal_holds, steady_picks
from alreadytold.plans import fewest_looks, look_plan, plan_fault, surely_told, telling_ins, untold_lots
from alreadytold.rings import rings_of
from alreadytold.stories import all_stories
from alreadytold.tellings import quarrels_of
from alreadytold.turning import turning_table
from alreadytold.weighing import (Nothing, back_shares, drawn_in, same_as_seldom, weighed_chart, weighed_outs, weighed_posts,
                                  weighed_worths, weight_of, weight_sum)
from samples import fillings, fraction, ratio
from test_greatest import WIRES, long_shares
from test_greatest_wishes import INS, long_entry, six_boxes

MANNERS = ["story", "ring", "slip"]


def sure_entry(rng):
    return (rng.randrange(2),)


class Soon(unittest.TestCase):
    def setUp(self):
        self.begun = time.time()

    def tearDown(self):
        self.assertLess(time.time() - self.begun, 120)

    def test_weighed_stories_of_long_numbers(self):
        chart = six_boxes(random.Random(901), long_entry)
        ins = (1, 0, 1, 1, 0, 0)
        table = turning_table(chart, ins)
        total = weight_sum(chart, ins)
        self.assertEqual(fraction(total), sum(fraction(table[number][number]) for number in range(64)))
        posts = weighed_posts(chart, ins)
        for number in (0, 17, 63):
            self.assertEqual(fraction(posts[number]), fraction(table[number][number]) / fraction(total))
        outs = weighed_outs(chart, ins)
        self.assertEqual((len(outs), sum(fraction(share) for _, share in outs)), (8, 1))
        worths = [fraction(share) for share in weighed_worths(chart, ins, "a")]
        self.assertEqual(worths, [sum(fraction(share) for row, share in outs if row[0] == worth) for worth in range(2)])
        story = next(iter(all_stories(chart, ins)))
        self.assertGreater(fraction(weight_of(chart, ins, story)), 0)
        self.assertEqual(back_shares(chart, ins, 1), tuple(table[number][number] for number in range(64)))

    def test_back_in_12_turns(self):
        rng = random.Random(902)
        letters = [("a", 4), ("b", 4), ("c", 4)]
        posts = fillings([4] * 3)
        # Each post stays or leads on in a ring of four.
        entries = [list(zip([post, posts[(number + 16) % 64]], long_shares(rng, 2))) for number, post in enumerate(posts)]
        chart = Chart(letters, [Box(0, letters, letters, entries)], ["a"])
        found = back_shares(chart, (), 12)
        table = turning_table(chart, ())
        for number in (0, 40):
            stay = [fraction(table[place % 64][place % 64]) for place in range(number, number + 64, 16)]
            self.assertEqual(fraction(found[number]), self.back_in_a_ring(stay, 12))
        sure = Chart(letters, [Box(0, letters, letters, [posts[(number + 16) % 64] for number in range(64)])], [])
        self.assertEqual(back_shares(sure, (), 12), ((1, 1),) * 64)
        self.assertEqual(back_shares(sure, (), 11), ((0, 1),) * 64)

    def back_in_a_ring(self, stay, turns):
        """The share with which one is back at the first post of a ring if each post stays or leads to the next."""
        shares = [Fraction(1)] + [Fraction(0)] * (len(stay) - 1)
        for _ in range(turns):
            shares = [shares[place] * stay[place] + shares[place - 1] * (1 - stay[place - 1]) for place in range(len(stay))]
        return shares[0]

    def test_same_as_seldom(self):
        self.assertEqual(same_as_seldom(six_boxes(random.Random(903), long_entry)), (0,) * 6)
        # Each letter is made of the ins alone, so told worths mean nothing.
        rng = random.Random(904)
        rows = [[sure_entry(rng) for _ in range(4)] for _ in WIRES]
        boxes = [Box(0, [INS[k], INS[(k + 1) % 6]] + [WIRES[(k + step) % 6] for step in range(4)], [wire],
                     [rows[k][number // 16] for number in range(64)]) for k, wire in enumerate(WIRES)]
        chart = Chart(INS + WIRES, boxes, ["a", "b", "c"])
        self.assertEqual((len(all_ins(chart)), len(posts_of(chart))), (64, 64))
        self.assertIsNone(same_as_seldom(chart))
        # The same with long numbers: the shares are short though the equations are not.
        rows = [[long_entry(rng) for _ in range(4)] for _ in WIRES]
        boxes = [Box(0, [INS[k % 3], INS[(k + 1) % 3]] + [WIRES[(k + step) % 6] for step in range(4)], [wire],
                     [rows[k][number // 16] for number in range(64)]) for k, wire in enumerate(WIRES)]
        self.assertIsNone(same_as_seldom(Chart(INS[:3] + WIRES, boxes, ["a", "b", "c"])))

    def test_long_shares_drawn_in(self):
        rng = random.Random(905)
        shares = long_shares(rng, 4)
        chart = weighed_chart(shares)
        self.assertEqual(weighed_posts(chart, ()), tuple(shares))
        wires = [("x", 4)] + WIRES[:4]
        boxes = [Box(0, [wires[0], wire], [wire], [long_entry(rng) for _ in range(8)]) for wire in wires[1:]]
        chart = Chart(wires, boxes, ["a", "b"])
        other = drawn_in(chart, "x", shares)
        whole = sum(fraction(share) * fraction(weight_sum(chart, (worth,))) for worth, share in enumerate(shares))
        self.assertEqual(weight_sum(other, ()), ratio(whole))

    def test_pools_of_five(self):
        rng = random.Random(906)
        pool = [six_boxes(rng, sure_entry) for _ in range(5)]
        for manner in MANNERS:
            looks = fewest_looks(pool, manner)
            plan = look_plan(pool, manner)
            self.assertIsNone(plan_fault(pool, manner, plan))
            self.assertEqual(surely_told(pool, manner), looks is not None)
            self.assertEqual(untold_lots(pool, manner) == (), telling_ins(pool, manner) is not None)
        told = [(ins, "ring", answers_of(pool[2], ins, "ring")[0]) for ins in all_ins(pool[0])[:12]]
        self.assertIn(2, fitting_charts(pool, told))
        chance = [six_boxes(rng, long_entry) for _ in range(5)]
        self.assertEqual(untold_lots(chance, "story"), ((0, 1, 2, 3, 4),))

    def test_hidden_entries(self):
        # One box takes nothing and makes three letters of size 4; five further boxes draw what the outs show.
        letters = [("a", 4), ("b", 4), ("c", 4)]
        others = [(name, 2) for name in "pqrst"]
        halves = [((0,), (1, 2)), ((1,), (1, 2))]
        boxes = [Box(0, [], letters, [(0, 0, 0)])]
        boxes += [Box(0, letters, [wire], [halves if sum(row) % 3 else (1,) for row in fillings([4] * 3)]) for wire in others]
        chart = Chart(letters + others, boxes, ["p", "q", "r", "s", "t"])
        looks = [((), manner, (0, 1, 0, 1, 1)) for manner in MANNERS] * 4
        expected = tuple(row for row in fillings([4] * 3) if sum(row) % 3)
        self.assertEqual(hidden_entries(chart, 0, (), looks[::3]), expected)
        self.assertEqual(hidden_entries(chart, 0, (), looks), expected)

    def test_pools_of_five_edits(self):
        rng = random.Random(907)
        for entry in (sure_entry, long_entry):
            chart = six_boxes(rng, entry)
            ins = (0,) * 6
            pool = [("entry", number, ins, entry(rng)) for number in range(3)] + [("day", 4, 1), ("take", 5, "p", "s")]
            self.assertEqual(len(check_edits(chart, pool)), 5)
            for goal in [("no quarrel",), ("granted", ins, ("one ring",)), ("sure", ins, "a", 1),
                         ("weighed", ins, (1, 1, 0), (1, 8))]:
                mends, spoilers = list(find_mends(chart, pool, goal)), list(find_spoilers(chart, pool, goal))
                self.assertEqual(() in mends, goal_holds(chart, goal))
                self.assertNotEqual(() in mends, () in spoilers)
                for pick in mends[:2]:
                    self.assertTrue(goal_holds(edited_chart(chart, [pool[index] for index in pick]), goal))
                for pick in steady_picks(chart, pool, goal):
                    self.assertFalse(any(set(pick) <= set(other) for other in spoilers))

    def test_bench(self):
        chart = six_boxes(random.Random(908), sure_entry)
        bench = Bench(chart)
        for number, ins in enumerate(all_ins(chart)):
            bench.choose_ins(ins)
            bench.choose_manner(MANNERS[number % 3])
            bench.change(("entry", number % 6, ins, (number % 2,)))
            self.assertEqual(bench.ask(), answers_of(bench.chart, ins, MANNERS[number % 3]))
        self.assertEqual(len(bench.log), 192)
        self.assertEqual(len(bench.take_back(192)), 192)
        self.assertEqual(bench.chart, chart)

    def test_fewest_letters_of_six_boxes(self):
        chart = six_boxes(random.Random(909), sure_entry)
        found = fewest_letters(chart)
        self.assertIsInstance(found, Lettering)
        other = with_days(chart, found.days)
        self.assertEqual(other.letters, found.letters)
        self.assertEqual(quarrels_of(other), quarrels_of(chart))
        ins = (1,) * 6
        self.assertEqual(weighed_outs(other, ins), weighed_outs(chart, ins))
        self.assertEqual(weighed_outs(other, ins) == Nothing(), not [ring for ring in rings_of(chart, ins) if len(ring) == 1])


if __name__ == "__main__":
    unittest.main()
