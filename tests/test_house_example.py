"""[8.11]: the example of part 8, whole; and houses as great as the document lets, soon."""

import random
import time
import unittest
from itertools import islice

from alreadytold.dayrounds import days_with_story, endless_fault, endless_story, has_story
from alreadytold.growing import Growth, doubling, doubling_fault, growth, never_two
from alreadytold.houses import House
from alreadytold.manydays import all_days, count_days, day_story, days_fault, days_table
from alreadytold.plaindays import known_on, plain_days
from alreadytold.rounds import Round
from alreadytold.samehouses import alike_from, alike_hands
from alreadytold.suredays import couples_on, last_that_matters, worths_on
from house_samples import ends_of, has_step, slow_counts

FAR = 10 ** 30


class Example(unittest.TestCase):
    def test_example(self):
        house = House(2, 2, ((0, 0), (0, 1), (0, 1), (1, 1)))
        self.assertEqual([lead for couple, lead in house.all_steps if couple == (1, 1)], [(0, 0), (1, 1)])
        self.assertEqual(count_days(house, 0, 1, 0), 1)
        for days in range(1, 61):
            self.assertEqual(count_days(house, days, 1, 0), days)
        self.assertEqual(growth(house, 1, 0), Growth("power", 1))
        self.assertEqual(plain_days(house, 1, 0), Round(2, 1, (0, 1)))


def great_houses():
    """Houses of 16 couples: with rings of steps as long as can be, with many ways, and drawn ones."""
    rng = random.Random(690)
    houses = [House(4, 4, [(letter, hand) for hand in range(4) for letter in range(4)]),
              House(4, 4, [(hand, letter) for hand in range(4) for letter in range(4)])]
    while len(houses) < 4:
        # Each couple has just one step, and one leads to it.
        letters = [rng.sample(range(4), 4) for _ in range(4)]
        hands = [rng.sample(range(4), 4) for _ in range(4)]
        houses.append(House(4, 4, [(hands[letter][hand], letters[hand][letter]) for hand in range(4) for letter in range(4)]))
    return houses + [House(4, 4, [(rng.randrange(4), rng.randrange(4)) for _ in range(16)]) for _ in range(8)]


class Soon(unittest.TestCase):
    def setUp(self):
        self.begun = time.time()

    def tearDown(self):
        self.assertLess(time.time() - self.begun, 60)

    def test_far_days(self):
        turns = set()
        for house in great_houses():
            for hand, blank in ends_of(house):
                found = days_with_story(house, hand, blank)
                turns.add(found.turn)
                for days in (FAR, FAR - 1):
                    self.assertEqual(has_story(house, days, hand, blank), days in found)
                    for day in (0, FAR // 3, days):
                        couples = couples_on(house, days, hand, blank, day)
                        self.assertEqual(bool(couples), days in found)
                        worths = worths_on(house, days, hand, blank, day)
                        self.assertEqual((worths.hands, worths.letters), tuple(tuple(sorted(set(part))) for part in zip(*couples))
                                         or ((), ()))
            last_that_matters(house)
        self.assertGreater(max(turns), 5)

    def test_60_days(self):
        for house in great_houses():
            table = days_table(house, 60)
            couples = house.all_couples
            for hand, blank in ends_of(house):
                many = count_days(house, 60, hand, blank)
                self.assertEqual(many, slow_counts(house, hand, 60)[60][blank])
                self.assertEqual(many, sum(number for couple, row in zip(couples, table) if couple[0] == hand
                                           for goal, number in zip(couples, row) if goal[1] == blank))
                for number, story in enumerate(islice(all_days(house, 60, hand, blank), 3)):
                    self.assertEqual(day_story(house, 60, hand, blank, number), story)
                if many:
                    self.assertIsNone(days_fault(house, 60, hand, blank, day_story(house, 60, hand, blank, many - 1)))
                self.assertEqual(len(known_on(house, 60, hand, blank)), 61)

    def test_growth_and_likeness(self):
        for house in great_houses():
            for hand, blank in ends_of(house):
                kind = growth(house, hand, blank).kind
                found = doubling(house, hand, blank)
                self.assertEqual(found is not None, kind == "doubles")
                if found:
                    self.assertIsNone(doubling_fault(house, hand, blank, *vars(found).values()))
                    self.assertIsNotNone(never_two(house, hand, blank))
                plain_days(house, hand, blank)
            for hand in range(4):
                endless = endless_story(house, hand)
                if hasattr(endless, "again"):
                    self.assertIsNone(endless_fault(house, hand, endless.before, endless.again))
                    self.assertTrue(has_step(house, endless.again[-1], endless.again[0]))
                for other in great_houses()[:3]:
                    alike_from(house, hand, other, 3)
            self.assertEqual(sorted(hand for lot in alike_hands(house) for hand in lot), [0, 1, 2, 3])


if __name__ == "__main__":
    unittest.main()
