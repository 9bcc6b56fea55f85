"""The greatest inputs that the document lets: the answers must be exact and come soon."""

import random
import time
import unittest
from fractions import Fraction
from math import lcm

from alreadytold.boxes import Box
from alreadytold.charts import Chart, posts_of
from alreadytold.rings import Meeting, beats_of, meeting_of, rings_every, rings_of, shortest_walk, turns_to_rings
from alreadytold.spans import outs_of, span_of_outs, staying_fault, staying_with
from alreadytold.staying import mixed_shares, mixture_of, own_shares, own_shares_every, shares_stay
from alreadytold.stories import all_stories, count_stories, story_by_number
from alreadytold.tables import check_table, closed_lots, lot_beats, lot_shares
from alreadytold.tellings import quarrels_of
from alreadytold.turning import bounds_after, mean_shares_after, shares_after, turning_table
from samples import after_turn, fillings, fraction, ratio

WIRES = [("a", 2), ("b", 2), ("c", 2), ("d", 2), ("e", 2), ("f", 2)]
POSTS = fillings([2] * 6)
LONG = 10 ** 98


def long_shares(rng, many):
    """Shares with the sum 1, of about a hundred figures each."""
    weights = [rng.randrange(1, LONG) for _ in range(many)]
    return [ratio(Fraction(weight, sum(weights))) for weight in weights]


def long_table(rng, leads):
    table = []
    for number in range(64):
        goals = rng.sample(range(64), leads)
        if (number + 1) % 64 not in goals:
            goals[0] = (number + 1) % 64
        row = [(0, 1)] * 64
        for goal, share in zip(goals, long_shares(rng, leads)):
            row[goal] = share
        table.append(row)
    return table


def post_chart(leads, shares=None):
    """A chart of one box with 64 posts, in which post i leads to the posts leads[i]."""
    entries = []
    for number, goals in enumerate(leads):
        given = shares[number] if shares else [(1, len(goals))] * len(goals)
        entries.append([(POSTS[goal], share) for goal, share in zip(goals, given)])
    return Chart(WIRES, [Box(0, WIRES, WIRES, entries)], [name for name, _ in WIRES])


def long_chart(rng):
    leads = []
    for number in range(64):
        goals = rng.sample(range(64), 8)
        if (number + 1) % 64 not in goals:
            goals[0] = (number + 1) % 64
        leads.append(goals)
    return post_chart(leads, [long_shares(rng, 8) for _ in range(64)])


class Soon(unittest.TestCase):
    def setUp(self):
        self.begun = time.time()

    def tearDown(self):
        self.assertLess(time.time() - self.begun, 60)

    def stays(self, table, shares):
        numbers = [fraction(share) for share in shares]
        self.assertEqual(sum(numbers), 1)
        bottom = 1
        for row in table:
            self.assertEqual(len(row), 64)
        # Over one bottom, so that the check itself comes soon.
        for number in numbers:
            bottom = lcm(bottom, number.denominator)
        tops = [number.numerator * (bottom // number.denominator) for number in numbers]
        for goal in range(64):
            share = sum(Fraction(*table[place][goal]) * tops[place] for place in range(64) if table[place][goal][0])
            self.assertEqual(share, tops[goal])

    def test_tables_of_64_rows(self):
        rng = random.Random(101)
        for leads in (2, 64):
            table = long_table(rng, leads)
            self.assertEqual(check_table(table), tuple(map(tuple, table)))
            self.assertEqual(closed_lots(table), (tuple(range(64)),))
            self.assertEqual(lot_beats(table, tuple(range(64))), (tuple(range(64)),))
            self.stays(table, lot_shares(table, tuple(range(64))))

    def test_chart_with_64_posts(self):
        chart = long_chart(random.Random(102))
        table = turning_table(chart, ())
        ring, = rings_of(chart, ())
        self.assertEqual(ring, posts_of(chart))
        own = own_shares(chart, (), ring)
        self.stays(table, own)
        self.assertTrue(shares_stay(chart, (), own))
        self.assertEqual(mixture_of(chart, (), own), ((1, 1),))
        self.assertEqual(mixed_shares(chart, (), [(1, 1)]), own)
        self.assertEqual(own_shares_every(chart, (), 10 ** 30), (own,))
        outs = POSTS[17]
        span = span_of_outs(chart, (), outs)
        self.assertEqual((span.least, span.greatest, span.low), (own[17], own[17], ring))
        self.assertEqual(staying_with(chart, (), outs, own[17]), own)
        self.assertIsNone(staying_fault(chart, (), outs, own[17], own))
        self.assertEqual(outs_of(chart, (), own), tuple(zip(POSTS, own)))

    def test_many_turns(self):
        rng = random.Random(103)
        chart = long_chart(rng)
        shares = long_shares(rng, 64)
        twelve = shares_after(chart, (), shares, 12)
        self.assertEqual(sum_in_one(twelve), 1)
        mean = mean_shares_after(chart, (), shares, 12)
        self.assertEqual(sum_in_one(mean), 1)
        least, greatest = bounds_after(chart, (), POSTS[5], 12)
        self.assertTrue(fraction(least) <= fraction(twelve[5]) <= fraction(greatest))
        one = [fraction(share) for share in shares_after(chart, (), shares, 1)]
        table = [[fraction(share) for share in row] for row in turning_table(chart, ())]
        self.assertEqual(one, after_turn(table, [fraction(share) for share in shares]))

    def test_chance_boxes_with_64_rows(self):
        boxes = [Box(0, WIRES, [wire], [[((0,), (1, 3)), ((1,), (2, 3))]] * 64) for wire in WIRES]
        chart = Chart(WIRES, boxes, ["a"])
        self.assertEqual(count_stories(chart, ()), 64)
        self.assertEqual(story_by_number(chart, (), 63), (1,) * 6)
        self.assertEqual(sorted(all_stories(chart, ())), POSTS)
        own = own_shares(chart, (), rings_of(chart, ())[0])
        self.assertEqual(own[0], (1, 3 ** 6))
        self.assertEqual(meeting_of(chart, ()), Meeting(1, (0,) * 6))

    def test_64_ins_and_64_posts(self):
        ins = [(name, 2) for name in "pqrstu"]
        boxes = []
        for wire, known in zip(WIRES, ins):
            entries = [[((0,), (1, 2)), ((1,), (1, 2))]] * 2 + [(1,), (0,)]
            boxes.append(Box(0, [known, wire], [wire], entries))
        chart = Chart(WIRES + ins, boxes, [])
        self.assertEqual(quarrels_of(chart), tuple(fillings([2] * 6)[1:]))

    def test_rings_of_64_posts(self):
        leads = [[(number + 1) % 60] for number in range(60)] + [[60], [62], [61], [0, 60]]
        chart = post_chart(leads)
        rings = rings_of(chart, ())
        self.assertEqual([len(ring) for ring in rings], [60, 1, 2])
        self.assertEqual(len(beats_of(chart, (), rings[0])), 60)
        for turns, many in [(10 ** 30, 20 + 1 + 2), (6 * 7 ** 30, 6 + 1 + 2), (10 ** 30 - 1, 3 + 1 + 1), (1, 3)]:
            self.assertEqual(len(rings_every(chart, (), turns)), many)
            shares = own_shares_every(chart, (), turns)
            self.assertEqual([sum(map(fraction, row)) for row in shares], [1] * many)
        self.assertEqual(turns_to_rings(chart, ()), (0,) * 63 + (1,))
        self.assertEqual(shortest_walk(chart, (), POSTS[63], [POSTS[59]]), (POSTS[63],) + tuple(POSTS[:60]))

    def test_latest_meeting(self):
        # Ways of 63 and 64 turns in one ring: no primitive table of 64 rows meets later than this kind.
        chart = post_chart([[number + 1] for number in range(62)] + [[63, 0], [0]])
        marks = [1 << number for number in range(64)]
        turns = 0
        shared = 0
        while not shared:
            marks = marks[1:63] + [marks[63] | marks[0], marks[0]] if turns else [1 << (n + 1) for n in range(62)] + [
                1 << 63 | 1, 1]
            turns += 1
            shared = -1
            for mark in marks:
                shared &= mark
        meeting = meeting_of(chart, ())
        self.assertEqual(meeting, Meeting(turns, POSTS[(shared & -shared).bit_length() - 1]))
        self.assertGreater(turns, 3000)


def sum_in_one(shares):
    bottom = 1
    for _, part in shares:
        bottom = lcm(bottom, part)
    return Fraction(sum(top * (bottom // part) for top, part in shares), bottom)


if __name__ == "__main__":
    unittest.main()
