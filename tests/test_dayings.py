import random
import unittest
from itertools import combinations

from alreadytold.boxes import Box
from alreadytold.charts import Chart, all_ins
from alreadytold.customs import shares_by
from alreadytold.dayings import Lettering, fewest_letters, with_days
from alreadytold.drawing import all_in
from alreadytold.errors import BadChart, BadDays
from alreadytold.rings import rings_of
from alreadytold.spans import outs_of
from alreadytold.stories import count_stories
from alreadytold.tellings import quarrels_of, tells
from alreadytold.weighing import weighed_outs, weighed_posts, weighed_worths, weight_of
from samples import ODD_THINGS, fillings, identity_box, random_chart, slow_letters, slow_stories, small_charts

A, B, C = ("a", 2), ("b", 2), ("c", 2)


def slow_fewest(chart):
    """[10.2]: of all lots of wires the first of the fewest without which no ring of boxes leads on."""
    names = [name for name, _ in chart.wires]
    for many in range(len(names) + 1):
        for lot in combinations(names, many):
            days = slow_days(chart, lot)
            if days is not None:
                return Lettering(lot, days)


def slow_days(chart, lot):
    """The greatest numbers of wires, none of the lot, on the ways that lead to the boxes, None for a ring of boxes."""
    days = [0] * len(chart.boxes)
    for _ in range(len(chart.boxes) + 1):
        before = list(days)
        for number, box in enumerate(chart.boxes):
            for maker, other in enumerate(chart.boxes):
                if any(wire in other.makes and wire[0] not in lot for wire in box.takes):
                    days[number] = max(days[number], before[maker] + 1)
        if days == before:
            return tuple(days)
    return None


class Dayings(unittest.TestCase):
    def refuse(self, kind, told, function, *things):
        with self.assertRaises(kind) as caught:
            function(*things)
        self.assertEqual(list(vars(caught.exception).values()), list(told), things)

    def test_with_days(self):
        rng = random.Random(770)
        for _ in range(60):
            chart = random_chart(rng)
            days = [rng.randint(0, 9) for _ in chart.boxes]
            try:
                other = with_days(chart, rng.choice([tuple, list])(days))
            except BadChart as caught:
                self.assertEqual((caught.index, caught.what), (0, "post"))
                continue
            self.assertEqual([box.day for box in other.boxes], days)
            self.assertEqual(other.boxes, tuple(box.on_day(day) for box, day in zip(chart.boxes, days)))
            self.assertEqual((other.wires, other.outs, other.letters), (chart.wires, chart.outs, slow_letters(other)))

    def test_bad_days(self):
        chart = Chart([A, B], [identity_box(A), identity_box(B)], [])
        for days in [thing for thing in ODD_THINGS if thing != (1, 2)] + [(0, 0, 0), (0, 10), (-1, 0), (0, True), (0, None),
                                                                        "01", {0: 0, 1: 1}, (0, 1.0), iter((0, 1))]:
            self.refuse(BadDays, (days,), with_days, chart, days)
        self.assertEqual(with_days(chart, (9, 0)).boxes[0].day, 9)

    def test_too_many_posts(self):
        wires = [(name, 4) for name in "abcd"]
        boxes = [Box(day, [wires[day - 1]], [wires[day]], [(worth,) for worth in range(4)]) for day in range(1, 4)]
        chart = Chart(wires, boxes, [])
        self.assertEqual(chart.letters, ())
        self.assertEqual(with_days(chart, (3, 2, 1)).letters, ("b", "c"))
        boxes = boxes + [Box(5, [wires[3]], [("e", 4)], [(worth,) for worth in range(4)]),
                         Box(6, [("e", 4)], [("f", 2)], [(0,)] * 4)]
        chart = Chart(wires + [("e", 4), ("f", 2)], boxes, [])
        self.refuse(BadChart, (0, "post"), with_days, chart, (5, 4, 3, 2, 1))
        self.refuse(BadDays, ((5, 4, 3, 2),), with_days, chart, (5, 4, 3, 2))

    def test_the_same_stories_on_all_days(self):
        others = 0
        for rng, chart, ins in small_charts(771, 30):
            counts, quarrels = all_in(chart), quarrels_of(chart)
            stories = slow_stories(chart, ins)
            for _ in range(4):
                try:
                    other = with_days(chart, [rng.randint(0, 9) for _ in chart.boxes])
                except BadChart:
                    continue
                others += other.letters != chart.letters
                self.assertEqual(sorted(slow_stories(other, ins)), sorted(stories))
                for filling in stories:
                    self.assertEqual(weight_of(other, ins, filling), weight_of(chart, ins, filling))
                self.assertEqual(all_in(other).rows, counts.rows)
                self.assertEqual(quarrels_of(other), quarrels)
                self.assertEqual(weighed_outs(other, ins), weighed_outs(chart, ins))
                for name, _ in chart.wires:
                    self.assertEqual(tells(other, ins, name), tells(chart, ins, name))
                    self.assertEqual(weighed_worths(other, ins, name), weighed_worths(chart, ins, name))
        self.assertGreater(others, 20)

    def test_fewest_letters_against_all_lots(self):
        kinds = {}
        rng = random.Random(772)
        for number in range(300):
            chart = random_chart(rng, wires=8, chance=0.2)
            found = fewest_letters(chart)
            self.assertEqual(found, slow_fewest(chart))
            self.assertEqual((type(found.letters), type(found.days)), (tuple, tuple))
            kinds[(len(found.letters), max(found.days) > 1)] = True
        self.assertTrue({(0, False), (0, True), (1, False), (1, True), (2, False), (2, True)} <= set(kinds), kinds)

    def test_fewest_letters_against_all_days(self):
        rng = random.Random(773)
        for _ in range(60):
            chart = random_chart(rng, wires=6)
            if len(chart.boxes) > 4:
                continue
            found = fewest_letters(chart)
            rows = []
            for days in fillings([len(chart.boxes)] * len(chart.boxes)):
                try:
                    rows.append((slow_letters(with_days(chart, days)), days))
                except BadChart:
                    continue
            places = [name for name, _ in chart.wires]
            least = min((len(letters), tuple(map(places.index, letters))) for letters, _ in rows)
            self.assertEqual((len(found.letters), tuple(map(places.index, found.letters))), least)
            fitting = [days for letters, days in rows if letters == found.letters]
            # The least days are least for each box alone, too.
            self.assertEqual(found.days, tuple(map(min, zip(*fitting))))
            self.assertIn(found.days, fitting)

    def test_just_these_wires_are_letters(self):
        rng = random.Random(774)
        for _ in range(120):
            chart = random_chart(rng, wires=8)
            found = fewest_letters(chart)
            try:
                self.assertEqual(with_days(chart, found.days).letters, found.letters)
            except BadChart:
                self.assertGreater(len(found.letters), 5)

    def test_no_letters(self):
        none = 0
        rng = random.Random(775)
        for _ in range(150):
            chart = random_chart(rng, wires=6)
            found = fewest_letters(chart)
            if found.letters:
                continue
            none += 1
            other = with_days(chart, found.days)
            self.assertEqual(other.letters, ())
            for ins in all_ins(other):
                self.assertEqual(count_stories(other, ins), 1)
                self.assertEqual(rings_of(other, ins), (((),),))
                outs = {outs_of(other, ins, shares_by(other, ins, custom))
                        for custom in [("own", 0), ("seldom",), ("single",), ("slip", (1, 2)), ("told", [(1, 1)])]}
                self.assertEqual(outs, {weighed_outs(other, ins)})
                self.assertEqual(weighed_posts(other, ins), ((1, 1),))
        self.assertGreater(none, 30)

    def test_six_boxes(self):
        # Six boxes in a ring, each taking what the one ahead makes, and one that takes its own wire.
        wires = [(name, 4) for name in "abcdef"]
        boxes = [Box(0, [wires[k - 1]], [wires[k]], [(worth,) for worth in range(4)]) for k in range(6)]
        boxes = [box.on_day(day) for box, day in zip(boxes, (1, 2, 3, 4, 5, 6))]
        chart = Chart(wires, boxes, [])
        self.assertEqual(fewest_letters(chart), Lettering(("a",), (5, 0, 1, 2, 3, 4)))
        # More than 64 fillings of the letters may be told.
        full = Chart(wires[:3], [Box(0, wires[:3], wires[:3], [(0, 0, 0)] * 64)], [])
        self.assertEqual(fewest_letters(full), Lettering(("a", "b", "c"), (0,)))

    def test_more_than_64_fillings(self):
        # Two boxes take all that the other one makes: five small letters are more than four great ones.
        p, q = [("p", 4), ("q", 4), ("r", 4), ("s", 4)], [(name, 2) for name in "abcde"]
        boxes = [Box(0, q, p, [(0,) * 4] * 32), Box(1, p, q, [(0,) * 5] * 256)]
        chart = Chart(p + q, boxes, [])
        self.assertEqual(chart.letters, tuple("abcde"))
        found = fewest_letters(chart)
        self.assertEqual(found, Lettering(("p", "q", "r", "s"), (1, 0)))
        self.refuse(BadChart, (0, "post"), with_days, chart, found.days)

    def test_result(self):
        self.assertEqual((Lettering([1], 2).letters, Lettering([1], 2).days), ([1], 2))
        self.assertTrue(Lettering(1, 2) == Lettering(1, 2) and not Lettering(1, 2) != Lettering(1, 2))
        for other in (Lettering(0, 2), Lettering(1, 0), None, (1, 2)):
            self.assertTrue(Lettering(1, 2) != other)


if __name__ == "__main__":
    unittest.main()
