import random
import unittest

from alreadytold.errors import BadHand, OtherLetters
from alreadytold.houses import House
from alreadytold.manydays import count_days
from alreadytold.samehouses import UnlikeDays, alike_from, alike_hands
from house_samples import ENDING, EXAMPLE, FORKED, KEEPING, random_house, random_houses, slow_counts
from samples import ODD_THINGS


def slow_alike(house, hand, other, other_hand, days=60):
    rows = zip(slow_counts(house, hand, days), slow_counts(other, other_hand, days))
    for day, (row, other_row) in enumerate(rows):
        for blank, (number, other_number) in enumerate(zip(row, other_row)):
            if number != other_number:
                return UnlikeDays(day, blank, number, other_number)
    return None


class SameHouses(unittest.TestCase):
    def refuse(self, kind, told, function, *things):
        with self.assertRaises(kind) as caught:
            function(*things)
        self.assertEqual(list(vars(caught.exception).values()), [told], things)

    def test_against_many_days(self):
        rng = random.Random(680)
        alike = late = 0
        for _ in range(150):
            letters = rng.randint(2, 3)
            house = random_house(rng, None, letters)
            hands = rng.sample(range(house.hand_size), house.hand_size)
            other = random_house(rng, None, letters) if rng.random() < 0.5 else house.exchanged(hands, list(range(letters)))
            if rng.random() < 0.5:
                other = other.with_row(rng.randrange(other.hand_size), rng.randrange(letters),
                                       (rng.randrange(other.hand_size), rng.randrange(letters)))
            for hand in range(house.hand_size):
                for other_hand in range(other.hand_size):
                    found = alike_from(house, hand, other, other_hand)
                    self.assertEqual(found, slow_alike(house, hand, other, other_hand))
                    alike += found is None
                    late += found is not None and found.days > 2
                    if found:
                        self.assertEqual(count_days(house, found.days, hand, found.blank), found.number)
                        self.assertEqual(count_days(other, found.days, other_hand, found.blank), found.other_number)
        self.assertTrue(alike > 100 and late > 10, (alike, late))

    def test_alike_by_other_names(self):
        for rng, house in random_houses(681, 40):
            hands = rng.sample(range(house.hand_size), house.hand_size)
            other = house.exchanged(hands, list(range(house.letter_size)))
            for hand in range(house.hand_size):
                self.assertIsNone(alike_from(house, hand, other, hands[hand]))
                self.assertIsNone(alike_from(house, hand, house, hand))

    def test_examples(self):
        # From 1 there is one story more each day with the blank 0.
        self.assertEqual(alike_from(EXAMPLE, 1, EXAMPLE, 0), UnlikeDays(2, 0, 2, 1))
        self.assertEqual(alike_from(EXAMPLE, 0, EXAMPLE, 1), UnlikeDays(2, 0, 1, 2))
        self.assertIsNone(alike_from(KEEPING, 0, KEEPING, 2))
        self.assertIsNone(alike_from(KEEPING, 1, EXAMPLE, 0))
        # Of one day the blank 1 differs first, and so the least blank is told.
        self.assertEqual(alike_from(FORKED, 0, ENDING, 0), slow_alike(FORKED, 0, ENDING, 0))

    def test_hands_of_one_house(self):
        lots = {}
        for _, house in random_houses(682, 120):
            expected = []
            for hand in range(house.hand_size):
                for lot in expected:
                    if slow_alike(house, lot[0], house, hand, 40) is None:
                        lot.append(hand)
                        break
                else:
                    expected.append([hand])
            found = alike_hands(house)
            self.assertEqual(found, tuple(map(tuple, expected)))
            lots[len(found) < house.hand_size] = True
        self.assertEqual(len(lots), 2)
        self.assertEqual(alike_hands(KEEPING), ((0, 1, 2),))
        self.assertEqual(alike_hands(EXAMPLE), ((0,), (1,)))
        self.assertEqual(alike_hands(House(3, 2, [(0, 0), (1, 1), (1, 0), (0, 0), (2, 0), (2, 1)])), ((0,), (1,), (2,)))

    def test_errors(self):
        for thing in [thing for thing in ODD_THINGS if not (type(thing) is int and 0 <= thing < 2)]:
            self.refuse(BadHand, thing, alike_from, EXAMPLE, thing, KEEPING.mirrored(), 9)
            self.refuse(BadHand, thing, alike_from, KEEPING, 2, EXAMPLE, thing)
        self.refuse(OtherLetters, 3, alike_from, EXAMPLE, 1, KEEPING.mirrored(), 9)
        self.refuse(OtherLetters, 2, alike_from, KEEPING.mirrored(), 1, EXAMPLE, None)
        # The hands of the other house are its own.
        self.assertIsNotNone(alike_from(EXAMPLE, 1, KEEPING, 2))
        self.refuse(BadHand, 3, alike_from, EXAMPLE, 1, KEEPING, 3)
        self.refuse(BadHand, 2, alike_from, EXAMPLE, 2, KEEPING, 0)

    def test_result(self):
        self.assertEqual(list(vars(UnlikeDays(1, [2], 3, 4)).values()), [1, [2], 3, 4])
        self.assertTrue(UnlikeDays(1, 2, 3, 4) == UnlikeDays(1, 2, 3, 4))
        for other in (UnlikeDays(0, 2, 3, 4), UnlikeDays(1, 0, 3, 4), UnlikeDays(1, 2, 0, 4), UnlikeDays(1, 2, 3, 0), None):
            self.assertTrue(UnlikeDays(1, 2, 3, 4) != other)


if __name__ == "__main__":
    unittest.main()
