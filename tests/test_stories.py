import random
import unittest

from alreadytold.boxes import Box
from alreadytold.charts import Chart, all_ins, posts_of
from alreadytold.errors import BadIns, BadPost, NoFilling, NoStory
from alreadytold.stories import (all_stories, boxes_against, count_stories, number_of_story, stories_of_post,
                                 story_by_number, story_fault)
from alreadytold.working import worked, worths_at
from samples import ODD_THINGS, fillings, random_chart, slow_lets, slow_stories

HALF = (1, 2)
X, A, B = ("x", 2), ("a", 2), ("b", 2)


def keeper():
    """x chooses: 0 keeps the letter a, 1 turns it over; b is drawn at random, on a later day."""
    return Chart([X, A, B], [Box(0, [X, A], [A], [(0,), (1,), (1,), (0,)]),
                             Box(1, [], [B], [[((0,), HALF), ((1,), HALF)]])], ["b"])


class Stories(unittest.TestCase):
    def test_order(self):
        chart = keeper()
        self.assertEqual(list(all_stories(chart, [0])), [(0, 0, 0), (0, 0, 1), (0, 1, 0), (0, 1, 1)])
        self.assertEqual(list(all_stories(chart, (1,))), [])
        # By posts first: here the letter is the last wire.
        chart = Chart([B, A], [Box(0, [A], [A], [(0,), (1,)]), Box(1, [], [B], [[((0,), HALF), ((1,), HALF)]])], [])
        self.assertEqual(list(all_stories(chart, ())), [(0, 0), (1, 0), (0, 1), (1, 1)])

    def test_against_all_fillings(self):
        rng = random.Random(21)
        several = 0
        for number in range(150):
            chart = random_chart(rng, chance=0.5 if number % 2 else 0.0)
            for ins in all_ins(chart)[:5]:
                stories = slow_stories(chart, ins)
                self.assertEqual(list(all_stories(chart, ins)), stories)
                self.assertEqual(count_stories(chart, ins), len(stories))
                for place, filling in enumerate(stories):
                    self.assertEqual(story_by_number(chart, ins, place), filling)
                    self.assertEqual(number_of_story(chart, list(ins), list(filling)), place)
                for post in posts_of(chart):
                    found = stories_of_post(chart, ins, post)
                    self.assertEqual(found, tuple(filling for filling in stories
                                                  if worths_at(chart, filling, chart.letters) == post))
                    # The last sentence but one of [2.1].
                    self.assertEqual(found, tuple(filling for filling, sent, _ in worked(chart, ins, post)
                                                  if sent == post))
                    several += len(found) > 1
                    if chart.is_sure:
                        self.assertLessEqual(len(found), 1)
        self.assertGreater(several, 10)

    def test_days_mean_nothing(self):
        rng = random.Random(22)
        for _ in range(40):
            chart = random_chart(rng, chance=0.3)
            try:
                other = chart.with_day(0, 3)
            except ValueError:
                continue
            for ins in all_ins(chart)[:3]:
                self.assertEqual(sorted(all_stories(chart, ins)), sorted(all_stories(other, ins)))

    def test_no_story(self):
        chart = keeper()
        for number in [-1, 4, True, None, "0", (0,), 10 ** 99]:
            with self.assertRaises(NoStory) as caught:
                story_by_number(chart, (0,), number)
            self.assertEqual(caught.exception.thing, number)
        with self.assertRaises(NoStory):
            story_by_number(chart, (1,), 0)
        for thing in ODD_THINGS + [(0, 0), (1, 0, 0), (0, 0, 2), (0, 0, 0, 0), (0, 0, True), "000"]:
            with self.assertRaises(NoStory) as caught:
                number_of_story(chart, (0,), thing)
            self.assertIs(caught.exception.thing, thing)

    def test_refused_ins_and_posts(self):
        chart = keeper()
        for function in (lambda ins: list(all_stories(chart, ins)), lambda ins: stories_of_post(chart, ins, None),
                         lambda ins: count_stories(chart, ins), lambda ins: story_by_number(chart, ins, -1),
                         lambda ins: number_of_story(chart, ins, None), lambda ins: story_fault(chart, ins, None)):
            for ins, index in [(None, 0), ((), 0), ((2,), 0), ((0, 0), 1)]:
                with self.assertRaises(BadIns) as caught:
                    function(ins)
                self.assertEqual(caught.exception.index, index)
        for post, index in [(None, 0), ((), 0), ((0, 0), 1)]:
            with self.assertRaises(BadPost) as caught:
                stories_of_post(chart, (0,), post)
            self.assertEqual(caught.exception.index, index)

    def test_boxes_against(self):
        rng = random.Random(23)
        for _ in range(60):
            chart = random_chart(rng, chance=0.4)
            for filling in rng.sample(fillings([size for _, size in chart.wires]), 4):
                expected = tuple(number for number, box in enumerate(chart.boxes) if not slow_lets(chart, box, filling))
                self.assertEqual(boxes_against(chart, list(filling)), expected)
        for thing in ODD_THINGS + [(0, 0), (0, 0, 2), (0, 0, 0, 0), (0, True, 0)]:
            with self.assertRaises(NoFilling) as caught:
                boxes_against(keeper(), thing)
            self.assertIs(caught.exception.thing, thing)

    def test_story_fault(self):
        chart = keeper()
        for thing in ODD_THINGS + [(1, 0), (1, 0, 2), (0, False, 0)]:
            self.assertEqual(story_fault(chart, (0,), thing), "filling")
        self.assertEqual(story_fault(chart, (0,), (1, 0, 0)), "ins")
        self.assertEqual(story_fault(chart, (1,), [1, 0, 0]), "box")
        self.assertIsNone(story_fault(chart, (0,), [0, 1, 0]))
        rng = random.Random(24)
        for _ in range(40):
            chart = random_chart(rng, chance=0.4)
            ins = all_ins(chart)[0]
            stories = slow_stories(chart, ins)
            for filling in rng.sample(fillings([size for _, size in chart.wires]), 4) + stories[:3]:
                fault = None if filling in stories else "box"
                if worths_at(chart, filling, chart.ins) != ins:
                    fault = "ins"
                self.assertEqual(story_fault(chart, ins, filling), fault)


if __name__ == "__main__":
    unittest.main()
