import random
import unittest

from alreadytold.charts import all_ins
from alreadytold.errors import BadDays
from alreadytold.housecharts import as_chart, story_filling
from alreadytold.manydays import all_days, days_fault
from alreadytold.stories import all_stories, count_stories, story_fault
from alreadytold.working import worths_at
from house_samples import EXAMPLE, KEEPING, ends_of, random_house, random_houses
from samples import ODD_THINGS


class HouseCharts(unittest.TestCase):
    def refuse(self, days, house):
        with self.assertRaises(BadDays) as caught:
            as_chart(house, days)
        self.assertEqual(vars(caught.exception), {"days": days})

    def test_names_and_order(self):
        chart = as_chart(KEEPING, 3)
        self.assertEqual(chart.wires, (("ha", 3), ("hb", 3), ("hc", 3), ("hd", 3),
                                       ("ya", 2), ("yb", 2), ("yc", 2), ("yd", 2)))
        self.assertEqual(chart.outs, ("hd", "ya"))
        self.assertEqual(chart.ins, ("ha", "yd"))
        self.assertEqual(chart.letters, ("yb", "yc"))
        for day, box in enumerate(chart.boxes):
            names = "abcd"
            self.assertEqual((box.day, box.takes), (day, (("h" + names[day], 3), ("y" + names[day + 1], 2))))
            self.assertEqual(box.makes, (("h" + names[day + 1], 3), ("y" + names[day], 2)))
            self.assertEqual([entry[0][0] for entry in box.entries], list(KEEPING.rows))
            self.assertTrue(box.is_sure)
        self.assertEqual(as_chart(EXAMPLE, 1).letters, ())
        self.assertEqual(as_chart(EXAMPLE, 5).wires[5], ("hf", 2))
        self.assertEqual(as_chart(EXAMPLE, 5).wires[11], ("yf", 2))

    def test_entries_of_unlike_rows(self):
        for rng, house in random_houses(700, 20):
            chart = as_chart(house, rng.randint(1, 3))
            for box in chart.boxes:
                for hand, letter in ends_of(house):
                    self.assertEqual(box.made_by((hand, letter))[0][0], house.entry_of(hand, letter))

    def test_the_same_stories(self):
        several = none = 0
        for rng, house in random_houses(701, 40):
            days = rng.randint(1, 5 if house.letter_size == 2 else 3)
            chart = as_chart(house, days)
            for hand, blank in ends_of(house):
                fillings = [story_filling(story) for story in all_days(house, days, hand, blank)]
                self.assertEqual(sorted(all_stories(chart, (hand, blank))), sorted(fillings))
                for filling in fillings:
                    self.assertIsNone(story_fault(chart, (hand, blank), filling))
                several += len(fillings) > 1
                none += not fillings
        self.assertTrue(several > 20 and none > 20)

    def test_back_from_the_chart(self):
        rng = random.Random(702)
        for _ in range(20):
            house = random_house(rng, 3, 2)
            chart = as_chart(house, 4)
            for ins in all_ins(chart):
                self.assertEqual(count_stories(chart, ins), len(list(all_days(house, 4, *ins))))
                for filling in all_stories(chart, ins):
                    story = tuple(zip(filling[:5], filling[5:]))
                    self.assertIsNone(days_fault(house, 4, ins[0], ins[1], story))
                    self.assertEqual(story_filling(story), filling)
                    self.assertEqual(worths_at(chart, filling, chart.outs), (story[4][0], story[0][1]))

    def test_story_filling(self):
        self.assertEqual(story_filling(((1, 0), (2, 1), (0, 1))), (1, 2, 0, 0, 1, 1))
        self.assertEqual(story_filling([[1, 0]]), (1, 0))
        self.assertEqual(type(story_filling([[1, 0]])), tuple)

    def test_bad_days(self):
        for days in [thing for thing in ODD_THINGS if not (type(thing) is int and 1 <= thing <= 5)] + [0, 6, -1, 1.0]:
            self.refuse(days, EXAMPLE)
        # At most 64 fillings of the letters: 4 to the 3, 3 to the 3, 2 to the 4.
        rng = random.Random(703)
        for letters, most in [(4, 4), (3, 4), (2, 5)]:
            house = random_house(rng, 2, letters)
            self.assertEqual(len(as_chart(house, most).letters), most - 1)
            for days in range(most + 1, 8):
                self.refuse(days, house)


if __name__ == "__main__":
    unittest.main()
