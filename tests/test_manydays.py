import random
import unittest
from itertools import islice

from alreadytold.errors import BadDays, BadHand, BadLetter, NoDayStory
from alreadytold.houses import House
from alreadytold.manydays import all_days, count_days, day_story, days_fault, days_table
from house_samples import (ENDING, EXAMPLE, FORKED, KEEPING, couples_of, ends_of, random_houses, slow_counts, slow_days,
                           slow_leads, slow_stories)
from samples import ODD_THINGS

NO_DAYS = [thing for thing in ODD_THINGS if not (type(thing) is int and 0 <= thing <= 60)] + [61, 60.0, "3"]


class ManyDays(unittest.TestCase):
    def refuse(self, kind, told, function, *things):
        with self.assertRaises(kind) as caught:
            list(function(*things))
        self.assertEqual(list(vars(caught.exception).values()), [told], things)

    def test_stories_by_the_words(self):
        # [8.1] and [8.3] tell the same stories, but that y_0 is free for 0 days alone by [8.3].
        for _, house in random_houses(620, 25):
            for days in range(3):
                for hand, blank in ends_of(house):
                    stories = slow_days(house, days, hand, blank)
                    self.assertEqual(slow_stories(house, days, hand, blank), stories)
                    self.assertEqual(list(all_days(house, days, hand, blank)), stories)

    def test_all_and_their_numbers(self):
        many = 0
        for _, house in random_houses(621, 60):
            for days in (0, 1, 2, 4, 6):
                for hand, blank in ends_of(house):
                    stories = slow_stories(house, days, hand, blank)
                    many += len(stories) > 1
                    self.assertEqual(list(all_days(house, days, hand, blank)), stories)
                    self.assertEqual(count_days(house, days, hand, blank), len(stories))
                    for number, story in enumerate(stories[:40]):
                        self.assertEqual(day_story(house, days, hand, blank, number), story)
                        self.assertIsNone(days_fault(house, days, hand, blank, story))
                    self.refuse(NoDayStory, len(stories), day_story, house, days, hand, blank, len(stories))
        self.assertGreater(many, 50)

    def test_no_days(self):
        for house in (EXAMPLE, KEEPING, FORKED):
            for hand, blank in ends_of(house):
                self.assertEqual(list(all_days(house, 0, hand, blank)), [((hand, blank),)])
                self.assertEqual(count_days(house, 0, hand, blank), 1)
                self.assertEqual(day_story(house, 0, hand, blank, 0), ((hand, blank),))
            many = len(house.rows)
            self.assertEqual(days_table(house, 0), tuple(tuple(int(i == j) for j in range(many)) for i in range(many)))

    def test_table(self):
        for rng, house in random_houses(622, 30):
            couples = couples_of(house)
            leads = slow_leads(house)
            days = rng.randint(1, 7)
            for row, couple in zip(days_table(house, days), couples):
                counts = dict.fromkeys(couples, 0)
                counts[couple] = 1
                for _ in range(days):
                    after = dict.fromkeys(couples, 0)
                    for here, many in counts.items():
                        for lead in leads[here]:
                            after[lead] += many
                    counts = after
                self.assertEqual(row, tuple(counts[goal] for goal in couples))
        self.assertEqual(days_table(EXAMPLE, 3), ((1, 0, 0, 0), (0, 1, 0, 0), (0, 0, 0, 0), (3, 0, 0, 1)))

    def test_numbers_that_are_none(self):
        for number in [thing for thing in ODD_THINGS if not (type(thing) is int and 0 <= thing < 3)] + [3, 3.0, "0"]:
            self.refuse(NoDayStory, number, day_story, EXAMPLE, 3, 1, 0, number)
        # True is no whole number, though 1 is a number of a story.
        self.assertEqual(day_story(EXAMPLE, 3, 1, 0, 1), ((1, 1), (1, 1), (0, 0), (0, 0)))
        self.assertEqual(count_days(EXAMPLE, 3, 0, 1), 1)
        self.assertEqual(count_days(EXAMPLE, 3, 0, 0), 1)
        self.refuse(NoDayStory, 1, day_story, EXAMPLE, 3, 0, 0, 1)
        # A quarrel: there is no number at all.
        self.assertEqual(day_story(ENDING, 3, 0, 0, 0), ((0, 1), (1, 0), (1, 1), (0, 0)))
        self.assertEqual((count_days(ENDING, 4, 0, 0), list(all_days(ENDING, 4, 0, 0))), (0, []))
        self.refuse(NoDayStory, 0, day_story, ENDING, 4, 0, 0, 0)

    def test_errors_in_the_order_of_the_parameters(self):
        for function, more in [(count_days, ()), (all_days, ()), (day_story, (-1,)), (days_fault, (None,))]:
            for days in NO_DAYS:
                self.refuse(BadDays, days, function, EXAMPLE, days, 5, 5, *more)
            for thing in [thing for thing in ODD_THINGS if not (type(thing) is int and 0 <= thing < 2)]:
                self.refuse(BadHand, thing, function, EXAMPLE, 3, thing, 5, *more)
                self.refuse(BadLetter, thing, function, EXAMPLE, 3, 1, thing, *more)
        for days in NO_DAYS:
            self.refuse(BadDays, days, days_table, EXAMPLE, days)
        self.refuse(BadHand, 2, count_days, KEEPING.mirrored(), 0, 2, 2)
        self.refuse(BadLetter, 2, count_days, KEEPING, 0, 2, 2)

    def test_fault(self):
        story = [[1, 1], (0, 0), [0, 0]]
        self.assertIsNone(days_fault(EXAMPLE, 2, 1, 0, story))
        self.assertIsNone(days_fault(EXAMPLE, 2, 1, 0, tuple(story)))
        for thing in ODD_THINGS + [story[:2], story + [(0, 0)], "abc", {0: 0, 1: 1, 2: 2}]:
            self.assertEqual(days_fault(EXAMPLE, 2, 1, 0, thing), "story")
        for thing in ODD_THINGS + [(0, 2), (2, 0), (0, True), (0, 0, 0), (0,), "00", (-1, 0)]:
            for place in range(3):
                row = list(story)
                row[place] = thing
                self.assertEqual(days_fault(EXAMPLE, 2, 1, 0, row), "couple", thing)
        self.assertEqual(days_fault(EXAMPLE, 2, 0, 0, story), "hand")
        self.assertEqual(days_fault(EXAMPLE, 2, 1, 1, story), "blank")
        self.assertEqual(days_fault(EXAMPLE, 2, 1, 0, [(1, 1), (0, 1), (0, 0)]), "step")
        self.assertEqual(days_fault(EXAMPLE, 2, 1, 0, [(1, 0), (0, 0), (0, 0)]), "step")
        # Each word goes ahead of those behind it.
        self.assertEqual(days_fault(EXAMPLE, 2, 0, 1, [(1, 0), None]), "story")
        self.assertEqual(days_fault(EXAMPLE, 2, 0, 1, [(1, 0), (1, 0), None]), "couple")
        self.assertEqual(days_fault(EXAMPLE, 2, 0, 1, [(1, 0), (1, 0), (0, 0)]), "hand")
        self.assertEqual(days_fault(EXAMPLE, 2, 1, 1, [(1, 0), (1, 0), (0, 0)]), "blank")
        self.assertIsNone(days_fault(EXAMPLE, 0, 1, 0, [(1, 0)]))

    def test_all_rows_of_couples_are_judged(self):
        rng = random.Random(623)
        for _, house in random_houses(623, 20):
            couples = couples_of(house)
            for hand, blank in ends_of(house)[:4]:
                stories = slow_stories(house, 2, hand, blank)
                for _ in range(40):
                    row = tuple(rng.choice(couples) for _ in range(3))
                    self.assertEqual(days_fault(house, 2, hand, blank, row) is None, row in stories)

    def test_mirrored(self):
        for _, house in random_houses(624, 30):
            for hand, blank in ends_of(house):
                turned = sorted(tuple(couple[::-1] for couple in reversed(story))
                                for story in all_days(house, 4, hand, blank))
                self.assertEqual(list(all_days(house.mirrored(), 4, blank, hand)), turned)

    def test_60_days(self):
        counts = [count_days(FORKED, days, 0, 0) for days in range(61)]
        self.assertEqual(counts, [row[0] for row in slow_counts(FORKED, 0, 60)])
        self.assertEqual(counts[60], 2 ** 59)
        first, second = islice(all_days(FORKED, 60, 0, 0), 2)
        self.assertEqual((first, second), (day_story(FORKED, 60, 0, 0, 0), day_story(FORKED, 60, 0, 0, 1)))
        last = day_story(FORKED, 60, 0, 0, counts[60] - 1)
        self.assertIsNone(days_fault(FORKED, 60, 0, 0, last))
        self.assertTrue(first < second < last)
        self.refuse(NoDayStory, counts[60], day_story, FORKED, 60, 0, 0, counts[60])

    def test_as_many_as_can_be(self):
        # Couples (h, h) have steps to all couples (z, z), so each day has four ways.
        house = House(4, 4, [(letter, hand) for hand in range(4) for letter in range(4)])
        self.assertEqual(count_days(house, 60, 2, 1), 4 ** 59)
        for number in (0, 1, 4 ** 30 + 5, 4 ** 59 - 1):
            story = day_story(house, 60, 2, 1, number)
            self.assertIsNone(days_fault(house, 60, 2, 1, story))
            # The figures of the number by 4 are the hands of the days between.
            self.assertEqual(sum(couple[0] * 4 ** (59 - day) for day, couple in enumerate(story[1:60], 1)), number)
        self.refuse(NoDayStory, 4 ** 59, day_story, house, 60, 2, 1, 4 ** 59)
        table = days_table(house, 60)
        self.assertEqual(table, tuple(tuple(4 ** 59 if i % 5 == 0 and j % 5 == 0 else 0 for j in range(16))
                                      for i in range(16)))

    def test_first_stories_come_soon(self):
        # All but one of very many ways end nowhere; those that do not are found without the others.
        for house in (FORKED, EXAMPLE):
            for hand, blank in ends_of(house):
                stories = list(islice(all_days(house, 60, hand, blank), 5))
                self.assertEqual(stories, [day_story(house, 60, hand, blank, number) for number in range(len(stories))])


if __name__ == "__main__":
    unittest.main()
