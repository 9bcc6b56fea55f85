import random
import unittest

from alreadytold.dayrounds import Endless, Ends, days_with_story, endless_fault, endless_story, has_story
from alreadytold.errors import BadDays, BadHand, BadLetter
from alreadytold.houses import House
from alreadytold.manydays import count_days
from alreadytold.rounds import Round
from house_samples import (ENDING, EXAMPLE, FORKED, KEEPING, couples_of, ends_of, has_step, random_houses, slow_counts,
                           slow_leads)
from samples import ODD_THINGS

FAR = 10 ** 30


def turning_house():
    """16 couples in rings of 4 and 3 and the like: each couple has one step."""
    rng = random.Random(641)
    while True:
        house = House(4, 4, [(rng.randrange(4), rng.randrange(4)) for _ in range(16)])
        if len({couple for couple, _ in house.all_steps}) == 16:
            return house


class DayRounds(unittest.TestCase):
    def refuse(self, kind, told, function, *things):
        with self.assertRaises(kind) as caught:
            function(*things)
        self.assertEqual(list(vars(caught.exception).values()), [told], things)

    def test_days_one_by_one(self):
        kinds = set()
        for _, house in random_houses(640, 80):
            for hand in range(house.hand_size):
                rows = slow_counts(house, hand, 60)
                for blank in range(house.letter_size):
                    found = days_with_story(house, hand, blank)
                    flags = [row[blank] > 0 for row in rows]
                    self.assertEqual([days in found for days in range(61)], flags)
                    self.assertEqual([has_story(house, days, hand, blank) for days in range(0, 61, 7)], flags[::7])
                    kinds.add((found.turn > 1, found.head > 1))
        self.assertGreater(len(kinds), 3)

    def test_far_days(self):
        for house in [turning_house(), EXAMPLE, FORKED, ENDING]:
            for hand, blank in ends_of(house):
                found = days_with_story(house, hand, blank)
                for days in (FAR, FAR - 1, FAR - 17, 10 ** 20 + 3):
                    near = found.head + (days - found.head) % found.turn
                    self.assertEqual(has_story(house, days, hand, blank), count_days(house, near, hand, blank) > 0)
                    self.assertEqual(has_story(house, days, hand, blank), days in found)

    def test_examples(self):
        self.assertEqual(days_with_story(EXAMPLE, 1, 0), Round(0, 1, (0,)))
        self.assertEqual(days_with_story(KEEPING, 2, 1), Round(0, 1, (0,)))
        self.assertEqual(days_with_story(ENDING, 0, 0), Round(4, 1, (0, 1, 2, 3)))
        self.assertEqual(days_with_story(ENDING, 0, 1), Round(3, 1, (0, 1, 2)))
        self.assertEqual(days_with_story(ENDING, 1, 1), Round(2, 1, (0, 1)))
        for days in range(6):
            self.assertIs(has_story(ENDING, days, 0, 0), days < 4)

    def test_errors(self):
        for days in [thing for thing in ODD_THINGS if not (type(thing) is int and 0 <= thing <= FAR)] + [FAR + 1, -1]:
            self.refuse(BadDays, days, has_story, EXAMPLE, days, 9, 9)
        for thing in [thing for thing in ODD_THINGS if not (type(thing) is int and 0 <= thing < 2)]:
            self.refuse(BadHand, thing, has_story, EXAMPLE, FAR, thing, 9)
            self.refuse(BadLetter, thing, has_story, EXAMPLE, FAR, 1, thing)
            self.refuse(BadHand, thing, days_with_story, EXAMPLE, thing, 9)
            self.refuse(BadLetter, thing, days_with_story, EXAMPLE, 1, thing)
            self.refuse(BadHand, thing, endless_story, EXAMPLE, thing)
            self.refuse(BadHand, thing, endless_fault, EXAMPLE, thing, None, None)

    def test_endless_stories_and_last_days(self):
        ended = 0
        for _, house in random_houses(642, 150):
            for hand in range(house.hand_size):
                found = endless_story(house, hand)
                sums = [sum(row) for row in slow_counts(house, hand, 20)]
                if sums[20]:
                    self.assertIsInstance(found, Endless)
                    self.assertIsNone(endless_fault(house, hand, found.before, found.again))
                    row = found.before + found.again * 20
                    self.assertEqual((row[0][0], type(found.before), type(found.again)), (hand, tuple, tuple))
                    self.assertTrue(all(has_step(house, one, other) for one, other in zip(row, row[1:])))
                else:
                    ended += 1
                    self.assertEqual(found, Ends(max(days for days in range(21) if sums[days])))
        self.assertGreater(ended, 20)
        self.assertEqual(endless_story(ENDING, 0), Ends(3))
        self.assertEqual(endless_story(ENDING, 1), Ends(2))
        self.assertEqual(endless_story(House(2, 2, [(0, 1)] * 2 + [(1, 0)] * 2), 0).again[-1][0], 0)

    def test_no_step_at_all(self):
        # Hand 1 makes the letter 1 alone of what it takes, and (1, 1) hands on 0, of which only the letter 0 is made.
        house = House(2, 2, [(0, 0), (0, 0), (0, 1), (0, 1)])
        self.assertEqual(endless_story(house, 1).again, ((0, 0),))
        ends = 0
        for _, house in random_houses(644, 200):
            leads = slow_leads(house)
            for hand in range(house.hand_size):
                found = endless_story(house, hand)
                none = not any(leads[(hand, letter)] for letter in range(house.letter_size))
                self.assertEqual(found == Ends(0), none)
                ends += isinstance(found, Ends) and not none
        self.assertGreater(ends, 20)

    def test_results(self):
        self.assertEqual((Endless([1], 2).before, Endless([1], 2).again, Ends(None).days), ([1], 2, None))
        self.assertTrue(Endless(1, 2) == Endless(1, 2) and Ends(3) == Ends(3))
        for other in (Endless(1, 3), Endless(3, 2), Ends(1), None):
            self.assertTrue(Endless(1, 2) != other)
        self.assertTrue(Ends(3) != Ends(4) and not Ends(3) == 3)

    def test_fault(self):
        # 1, 1 stays or goes to 0, 0, which stays.
        fault = lambda before, again: endless_fault(EXAMPLE, 1, before, again)
        self.assertIsNone(fault([], [[1, 1]]))
        self.assertIsNone(fault([(1, 1), [1, 1]], ((0, 0), (0, 0))))
        self.assertIsNone(fault((), ((1, 1), (1, 1))))
        for thing in [thing for thing in ODD_THINGS if thing not in ((), [])] + [[(0, 2)], [(2, 0)], [(1, True)], [(1, 1), None],
                                                                                "ab", {(1, 1): 0}]:
            self.assertEqual(fault(thing, [(1, 1)]), "couple")
            self.assertEqual(fault([(1, 1)], thing), "couple")
        self.assertEqual(fault([], None), "couple")
        self.assertEqual(fault([(0, 0)], []), "again")
        self.assertEqual(fault([], ()), "again")
        self.assertEqual(fault([(0, 0)], [(1, 1)]), "hand")
        self.assertEqual(fault([], [(0, 0), (1, 1)]), "hand")
        # Steps within, between both, and from the end back to the beginning.
        self.assertEqual(fault([(1, 0), (1, 1)], [(1, 1)]), "step")
        self.assertEqual(fault([(1, 1)], [(0, 1)]), "step")
        self.assertEqual(fault([(1, 1)], [(0, 0), (0, 1)]), "step")
        self.assertEqual(fault([], [(1, 1), (0, 0)]), "step")

    def test_fault_against_the_words(self):
        right = 0
        for rng, house in random_houses(643, 60):
            couples = couples_of(house)
            for _ in range(60):
                hand = rng.randrange(house.hand_size)
                before = [rng.choice(couples) for _ in range(rng.randint(0, 1))]
                again = [rng.choice(couples) for _ in range(rng.randint(1, 2))]
                row = before + again * 3
                good = row[0][0] == hand and all(has_step(house, one, other) for one, other in zip(row, row[1:]))
                self.assertEqual(endless_fault(house, hand, before, again) is None, good)
                right += good
        self.assertGreater(right, 20)


if __name__ == "__main__":
    unittest.main()
