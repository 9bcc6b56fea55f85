import random
import unittest
from itertools import permutations

from alreadytold.errors import BadExchange, BadHand, BadHouse, BadLetter
from alreadytold.houses import House
from house_samples import EXAMPLE, KEEPING, couples_of, has_step, random_house, random_houses
from samples import ODD_THINGS

ROWS = [(0, 0)] * 6
NO_SIZES = [thing for thing in ODD_THINGS if thing != 2] + [5, -2, 2.0, "2", (2,)]


def no_worths(size):
    return [thing for thing in ODD_THINGS if not (type(thing) is int and 0 <= thing < size)]


class Houses(unittest.TestCase):
    def refuse(self, kind, told, function, *things):
        with self.assertRaises(kind) as caught:
            function(*things)
        self.assertEqual(list(vars(caught.exception).values()), list(told), things)

    def test_attributes(self):
        told = [[1, 0], (2, 1), [0, 1], (0, 0), (1, 1), [2, 0]]
        house = House(3, 2, told)
        self.assertEqual((house.hand_size, house.letter_size), (3, 2))
        self.assertEqual(house.rows, ((1, 0), (2, 1), (0, 1), (0, 0), (1, 1), (2, 0)))
        self.assertTrue(all(type(row) is tuple for row in house.rows))
        told[0][0] = 2
        told.pop()
        self.assertEqual(house.rows[0], (1, 0))
        self.assertEqual(len(house.rows), 6)
        for hands in (2, 3, 4):
            for letters in (2, 3, 4):
                self.assertEqual(len(House(hands, letters, [(hands - 1, letters - 1)] * (hands * letters)).rows),
                                 hands * letters)

    def test_bad_houses(self):
        for size in NO_SIZES:
            self.refuse(BadHouse, (0, "hand"), House, size, 2, ROWS)
            self.refuse(BadHouse, (0, "letter"), House, 3, size, ROWS)
        for rows in ODD_THINGS + [ROWS[:5], ROWS + ROWS[:1], dict.fromkeys(range(6)), "abcdef", iter(ROWS)]:
            self.refuse(BadHouse, (0, "rows"), House, 3, 2, rows)
        for place in range(6):
            for row in ODD_THINGS + [(3, 0), (0, 2), (-1, 0), (0, -1), (0, True), (False, 0), (0, 0, 0), (0,), "00",
                                     {0: 0, 1: 1}, (0.0, 0)]:
                self.refuse(BadHouse, (place, "row"), House, 3, 2, ROWS[:place] + [row] + ROWS[place + 1:])

    def test_words_in_their_order(self):
        self.refuse(BadHouse, (0, "hand"), House, 1, 9, None)
        self.refuse(BadHouse, (0, "letter"), House, 3, 9, None)
        self.refuse(BadHouse, (0, "rows"), House, 3, 2, [None] * 5)
        self.refuse(BadHouse, (2, "row"), House, 3, 2, ROWS[:2] + [None, None] + ROWS[:2])

    def test_entry_of(self):
        for rng, house in random_houses(610, 30):
            for number, (hand, letter) in enumerate(couples_of(house)):
                self.assertEqual(house.entry_of(hand, letter), house.rows[number])
        for thing in no_worths(3):
            self.refuse(BadHand, (thing,), KEEPING.entry_of, thing, None)
        for thing in no_worths(2):
            self.refuse(BadLetter, (thing,), KEEPING.entry_of, 2, thing)

    def test_with_row(self):
        for rng, house in random_houses(611, 30):
            hand, letter = rng.choice(couples_of(house))
            row = rng.choice(couples_of(house))
            before = house.rows
            other = house.with_row(hand, letter, list(row))
            self.assertEqual(house.rows, before)
            for couple in couples_of(house):
                self.assertEqual(other.entry_of(*couple), row if couple == (hand, letter) else house.entry_of(*couple))
            self.assertEqual(type(other.rows[hand * house.letter_size + letter]), tuple)
        self.refuse(BadHand, (3,), KEEPING.with_row, 3, 5, None)
        self.refuse(BadHand, (True,), KEEPING.with_row, True, 0, (0, 0))
        self.refuse(BadLetter, (2,), KEEPING.with_row, 2, 2, None)
        self.refuse(BadLetter, (None,), KEEPING.with_row, 2, None, (0, 0))
        for row in ODD_THINGS + [(3, 0), (0, 2), (0, True)]:
            self.refuse(BadHouse, (3, "row"), KEEPING.with_row, 1, 1, row)

    def test_couples_and_steps(self):
        self.assertEqual(KEEPING.all_couples, ((0, 0), (0, 1), (1, 0), (1, 1), (2, 0), (2, 1)))
        self.assertEqual(KEEPING.all_steps, tuple((couple, couple) for couple in KEEPING.all_couples))
        self.assertEqual(EXAMPLE.all_steps,
                         (((0, 0), (0, 0)), ((0, 1), (0, 1)), ((1, 1), (0, 0)), ((1, 1), (1, 1))))
        for _, house in random_houses(612, 60):
            couples = couples_of(house)
            self.assertEqual(house.all_couples, tuple(couples))
            self.assertEqual(house.all_steps, tuple((couple, lead) for couple in couples for lead in couples
                                                    if has_step(house, couple, lead)))

    def test_exchanged(self):
        rng = random.Random(613)
        for _, house in random_houses(613, 40):
            hands = rng.choice(list(permutations(range(house.hand_size))))
            letters = rng.choice(list(permutations(range(house.letter_size))))
            other = house.exchanged(list(hands), letters)
            for hand, letter in couples_of(house):
                made_hand, made_letter = house.entry_of(hand, letter)
                self.assertEqual(other.entry_of(hands[hand], letters[letter]), (hands[made_hand], letters[made_letter]))
            steps = [tuple((hands[h], letters[y]) for h, y in step) for step in house.all_steps]
            self.assertEqual(other.all_steps, tuple(sorted(steps)))
            back = other.exchanged([hands.index(h) for h in range(len(hands))], [letters.index(y) for y in range(len(letters))])
            self.assertTrue(back == house)

    def test_bad_exchanges(self):
        for order in ODD_THINGS + [(0, 1), (0, 1, 1), (0, 1, 3), (0, 1, 2, 2), (0, True, 2), (2, 1.0, 0), "012", {0: 0, 1: 1, 2: 2},
                                   (None, 0, 1), ([0], 1, 2)]:
            self.refuse(BadExchange, ("hands",), KEEPING.exchanged, order, None)
        for order in ODD_THINGS + [(0, 0), (1, 1), (0, 1, 2), (False, 1), (0, 2)]:
            self.refuse(BadExchange, ("letters",), KEEPING.exchanged, [2, 0, 1], order)

    def test_mirrored(self):
        for _, house in random_houses(614, 60):
            other = house.mirrored()
            self.assertEqual((other.hand_size, other.letter_size), (house.letter_size, house.hand_size))
            for hand, letter in couples_of(house):
                made_hand, made_letter = house.entry_of(hand, letter)
                self.assertEqual(other.entry_of(letter, hand), (made_letter, made_hand))
            turned = sorted((lead[::-1], couple[::-1]) for couple, lead in house.all_steps)
            self.assertEqual(other.all_steps, tuple(turned))
            self.assertTrue(other.mirrored() == house)

    def test_equality(self):
        one = House(2, 3, ROWS)
        self.assertTrue(one == House(2, 3, tuple(ROWS)))
        self.assertFalse(one != House(2, 3, tuple(ROWS)))
        for other in (House(3, 2, ROWS), House(2, 3, ROWS[:5] + [(1, 0)]), ROWS, None, 0):
            self.assertFalse(one == other)
            self.assertTrue(one != other)

    def test_nothing_changes(self):
        house = random_house(random.Random(615))
        rows = house.rows
        house.mirrored()
        house.exchanged(list(range(house.hand_size)), list(range(house.letter_size)))
        house.with_row(0, 0, (1, 1))
        self.assertEqual((house.rows, house.all_steps), (rows, house.all_steps))


if __name__ == "__main__":
    unittest.main()
