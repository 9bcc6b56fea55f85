"""The greatest inputs for known wires, left worths, customs, wishes and fewest changes: exact and soon."""

import random
import time
import unittest
from fractions import Fraction
from itertools import islice

from alreadytold.boxes import Box
from alreadytold.charts import Chart, all_ins
from alreadytold.crowds import crowd_fault, crowd_for
from alreadytold.customs import customs_table, story_not_sure, worth_shares
from alreadytold.fewest import NoWay, changes_fault, needed_posts
from alreadytold.grounding import first_ungrounded, known_worths
from alreadytold.keyed import fewest_keys, is_key, keyed_stories
from alreadytold.lefts import left_worths
from alreadytold.manyfewest import all_fewest, count_everywhere, fewest_everywhere, granted_chart
from alreadytold.reasons import least_lots, reasons_fault, reasons_for, withheld_lots
from alreadytold.stories import all_stories
from alreadytold.sureouts import sure_everywhere, unsure_ins
from alreadytold.tellings import Sure
from alreadytold.wishes import is_granted
from samples import fillings, fraction
from test_greatest import WIRES, long_shares

INS = [(name, 2) for name in "pqrstu"]
ONE = (1, 1)


def six_boxes(rng, entry):
    """64 ins and 64 posts: each letter is made of two ins and four letters."""
    boxes = []
    for k, wire in enumerate(WIRES):
        takes = [INS[k], INS[(k + 1) % 6]] + [WIRES[(k + step) % 6] for step in range(4)]
        boxes.append(Box(0, takes, [wire], [entry(rng) for _ in range(64)]))
    return Chart(INS + WIRES, boxes, ["a", "b", "c"])


def long_entry(rng):
    one, other = long_shares(rng, 2)
    return [((0,), one), ((1,), other)]


def wide_box(entries):
    """One box that takes 4 ins and 64 posts of letters of size 4, and makes three more wires of size 4."""
    ins, letters = [("x", 4)], [("a", 4), ("b", 4), ("c", 4)]
    others = [("o", 4), ("q", 4), ("r", 4)]
    return Chart(ins + letters + others, [Box(0, ins + letters, letters + others, entries)], ["o", "a", "q"])


class Soon(unittest.TestCase):
    def setUp(self):
        self.begun = time.time()

    def tearDown(self):
        self.assertLess(time.time() - self.begun, 120)

    def test_64_ins_and_64_posts(self):
        rng = random.Random(511)
        chart = six_boxes(rng, lambda r: (r.randrange(2),))
        unsure = unsure_ins(chart, "a")
        for ins in all_ins(chart)[::9]:
            sure = sure_everywhere(chart, ins, "a")
            self.assertEqual(ins in unsure, not isinstance(sure, Sure))
            table = customs_table(chart, ins, "a")
            self.assertEqual(ONE in table.least, isinstance(sure, Sure))
            for row in (table.by_seldom, table.by_single):
                self.assertEqual(sum(map(fraction, row)), 1)
                self.assertTrue(all(fraction(a) <= fraction(b) <= fraction(c)
                                    for a, b, c in zip(table.least, row, table.greatest)))
            keys = fewest_keys(chart, ins)
            self.assertTrue(all(is_key(chart, ins, key) for key in keys))
            self.assertEqual(sorted(keyed_stories(chart, ins, keys[0])), sorted(all_stories(chart, ins)))
        for ins in story_not_sure(chart, "a"):
            self.assertIn(ins, unsure)
        self.assertIsNotNone(first_ungrounded(chart))

    def test_long_numbers(self):
        rng = random.Random(512)
        chart = six_boxes(rng, long_entry)
        ins = (0, 1, 0, 1, 1, 0)
        self.assertEqual(unsure_ins(chart, "a"), all_ins(chart))
        row = worth_shares(chart, ins, ("told", [ONE] + [(0, 1)] * 63), "d")
        self.assertEqual(sum(map(fraction, row)), 1)
        self.assertEqual(left_worths(chart, ins)[6:], ((0, 1),) * 6)
        self.assertIsNone(crowd_fault(chart, ins, "f", 1, crowd_for(chart, ins, "f", 1)))

    def test_reasons_of_many_wires(self):
        # Ten wires in a row, each known by the one before and the ins.
        made = [(name, 2) for name in "abcdef"]
        boxes = []
        for k, wire in enumerate(made):
            takes = INS[:4] + [made[k - 1]] + [made[(k + 1) % 6]]
            boxes.append(Box(0, takes, [wire], [(int(sum(row) > 3) if k else row[0],) for row in fillings([2] * 6)]))
        chart = Chart(INS + made, boxes, [])
        for ins in [(1, 1, 1, 1, 0, 0), (0, 0, 0, None, None, None), (1, 0, 1, None, 1, 1)]:
            known = known_worths(chart, ins)
            for place, (name, _) in enumerate(chart.wires):
                if known[place] is not None:
                    self.assertIsNone(reasons_fault(chart, ins, name, reasons_for(chart, ins, name)))
                least, withheld = least_lots(chart, ins, name), withheld_lots(chart, ins, name)
                self.assertTrue(all(set(one) & set(other) for one in least for other in withheld))
                self.assertEqual(known[place] is not None, len(least) > 0)

    def test_fewest(self):
        rng = random.Random(513)
        sure = wide_box([tuple(rng.randrange(4) for _ in range(6)) for _ in range(256)])
        rows = fillings([4] * 6)
        chance = wide_box([list(zip(rng.sample(rows, 8), long_shares(rng, 8))) for _ in range(256)])
        for wish in [("still",), ("one ring",), ("story",), ("outs", [0, None, 1]), ("outs", [0, 3, 1]),
                     ("lot", [(0, 0, worth) for worth in range(4)]), ("lot", [])]:
            for chart in (sure, chance):
                found, other = fewest_everywhere(chart, wish), granted_chart(chart, wish)
                if wish == ("lot", []):
                    self.assertEqual((found, other), (NoWay(), NoWay()))
                    continue
                for ins, changes in found.rows:
                    self.assertIsNone(changes_fault(chart, ins, wish, changes))
                    self.assertTrue(is_granted(other, ins, wish))
                    self.assertTrue(set(needed_posts(chart, ins, wish)) <= {post for post, _ in changes})
            self.assertEqual(count_everywhere(sure, wish) == 0, wish == ("lot", []))
            for ins in all_ins(sure):
                for changes in islice(all_fewest(sure, ins, wish), 3):
                    self.assertIsNone(changes_fault(sure, ins, wish, changes))

    def test_customs_of_long_numbers(self):
        rng = random.Random(514)
        rows = fillings([4] * 6)
        chart = wide_box([list(zip(rng.sample(rows, 8), long_shares(rng, 8))) for _ in range(256)])
        table = customs_table(chart, (2,), "o")
        self.assertEqual(table.stories, tuple(worth for worth in range(4) if worth in table.stories))
        self.assertEqual(sum((fraction(share) for share in table.by_single), Fraction(0)), 1)


if __name__ == "__main__":
    unittest.main()
