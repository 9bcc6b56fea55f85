import unittest
from itertools import product

from alreadytold.errors import BadDays, BadHand, BadLetter
from alreadytold.houses import House
from alreadytold.manydays import all_days, count_days
from alreadytold.plaindays import known_on, plain_days
from alreadytold.rounds import Round
from house_samples import ENDING, EXAMPLE, KEEPING, couples_of, ends_of, random_houses
from samples import ODD_THINGS


def slow_known(house, days, hand, blank):
    """[8.8] word by word: one worth after another becomes known, until none does."""
    known = {("h", 0): hand, ("y", days): blank}
    while True:
        for day in range(days):
            rows = [row for couple, row in zip(couples_of(house), house.rows)
                    if known.get(("h", day), couple[0]) == couple[0] and known.get(("y", day + 1), couple[1]) == couple[1]]
            new = [(place, row) for place, row in [(("h", day + 1), {row[0] for row in rows}), (("y", day), {row[1] for row in rows})]
                   if len(row) == 1 and place not in known]
            if new:
                known[new[0][0]] = min(new[0][1])
                break
        else:
            return tuple((known.get(("h", day)), known.get(("y", day))) for day in range(days + 1))


class PlainDays(unittest.TestCase):
    def refuse(self, kind, told, function, *things):
        with self.assertRaises(kind) as caught:
            function(*things)
        self.assertEqual(list(vars(caught.exception).values()), [told], things)

    def test_known_by_the_words(self):
        parts = 0
        for rng, house in random_houses(670, 60):
            for days in (0, 1, 2, 3, 7):
                for hand, blank in ends_of(house):
                    found = known_on(house, days, hand, blank)
                    self.assertEqual(found, slow_known(house, days, hand, blank))
                    worths = [worth for couple in found for worth in couple]
                    parts += None in worths[1:-1] and worths.count(None) < 2 * days
        self.assertGreater(parts, 100)

    def test_known_worths_stand_in_all_stories(self):
        for _, house in random_houses(671, 60):
            for hand, blank in ends_of(house):
                known = known_on(house, 4, hand, blank)
                for story in all_days(house, 4, hand, blank):
                    for told, couple in zip(known, story):
                        self.assertTrue(told[0] in (None, couple[0]) and told[1] in (None, couple[1]))
                if not any(None in couple for couple in known):
                    self.assertEqual(count_days(house, 4, hand, blank), 1)

    def test_examples(self):
        self.assertEqual(known_on(EXAMPLE, 0, 1, 0), ((1, 0),))
        self.assertEqual(known_on(EXAMPLE, 1, 1, 0), ((1, 1), (0, 0)))
        self.assertEqual(known_on(EXAMPLE, 2, 1, 0), ((1, 1), (None, None), (0, 0)))
        self.assertEqual(plain_days(EXAMPLE, 1, 0), Round(2, 1, (0, 1)))
        self.assertEqual(known_on(KEEPING, 60, 2, 1), ((2, 1),) * 61)
        self.assertEqual(plain_days(KEEPING, 2, 1), Round(0, 1, (0,)))

    def test_one_story_is_not_plain(self):
        # From 0 with 0 there is one story of two days though not all becomes known.
        found = 0
        for _, house in random_houses(672, 100):
            for hand, blank in ends_of(house):
                for days in range(6):
                    plain = not any(None in couple for couple in known_on(house, days, hand, blank))
                    one = count_days(house, days, hand, blank) == 1
                    self.assertTrue(one or not plain)
                    found += one and not plain
        self.assertGreater(found, 20)

    def test_plain_days(self):
        kinds = {}
        for _, house in random_houses(673, 120):
            for hand, blank in ends_of(house):
                found = plain_days(house, hand, blank)
                flags = [not any(None in couple for couple in known_on(house, days, hand, blank)) for days in range(16)]
                self.assertEqual([days in found for days in range(16)], flags)
                self.assertTrue(found == Round(0, 1, (0,)) or max(found.lot) < house.hand_size + house.letter_size)
                kinds[len(found.lot) if found != Round(0, 1, (0,)) else "all"] = True
        # With 0 and 1 days all is always known.
        self.assertTrue({"all", 2, 3} <= set(kinds) and 0 not in kinds and 1 not in kinds, kinds)

    def test_all_small_houses(self):
        for rows in product([(0, 0), (0, 1), (1, 0), (1, 1)], repeat=4):
            house = House(2, 2, rows)
            for hand, blank in ends_of(house):
                flags = [not any(None in couple for couple in known_on(house, days, hand, blank)) for days in range(9)]
                self.assertEqual([days in plain_days(house, hand, blank) for days in range(9)], flags)

    def test_60_days(self):
        known = known_on(ENDING, 60, 0, 1)
        self.assertEqual((len(known), known[0][0], known[60][1]), (61, 0, 1))

    def test_errors(self):
        for days in [thing for thing in ODD_THINGS if not (type(thing) is int and 0 <= thing <= 60)] + [61]:
            self.refuse(BadDays, days, known_on, EXAMPLE, days, 9, 9)
        for thing in [thing for thing in ODD_THINGS if not (type(thing) is int and 0 <= thing < 2)]:
            self.refuse(BadHand, thing, known_on, EXAMPLE, 3, thing, 9)
            self.refuse(BadLetter, thing, known_on, EXAMPLE, 3, 1, thing)
            self.refuse(BadHand, thing, plain_days, EXAMPLE, thing, 9)
            self.refuse(BadLetter, thing, plain_days, EXAMPLE, 1, thing)


if __name__ == "__main__":
    unittest.main()
