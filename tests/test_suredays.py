import unittest

from alreadytold.errors import BadDay, BadDays, BadHand, BadLetter
from alreadytold.houses import House
from alreadytold.suredays import Matters, OnDay, couples_on, last_that_matters, leading, reached, worths_on
from house_samples import (ENDING, EXAMPLE, FORKED, KEEPING, couples_of, ends_of, has_step, random_houses, slow_leads,
                           slow_stories)
from samples import ODD_THINGS

FAR = 10 ** 30
NO_DAYS = [thing for thing in ODD_THINGS if not (type(thing) is int and 0 <= thing <= FAR)] + [FAR + 1, -1]
NO_BITS = [thing for thing in ODD_THINGS if not (type(thing) is int and 0 <= thing < 2)]


def slow_reached(house, days, hand):
    leads = slow_leads(house)
    found = {couple for couple in couples_of(house) if couple[0] == hand}
    for _ in range(days):
        found = {lead for couple in found for lead in leads[couple]}
    return tuple(sorted(found))


def slow_leading(house, days, blank):
    couples = couples_of(house)
    found = {couple for couple in couples if couple[1] == blank}
    for _ in range(days):
        found = {couple for couple in couples for lead in found if has_step(house, couple, lead)}
    return tuple(sorted(found))


class SureDays(unittest.TestCase):
    def refuse(self, kind, told, function, *things):
        with self.assertRaises(kind) as caught:
            function(*things)
        self.assertEqual(list(vars(caught.exception).values()), [told], things)

    def test_reached_and_leading(self):
        for rng, house in random_houses(650, 60):
            for days in (0, 1, 2, 5, 19):
                for hand in range(house.hand_size):
                    self.assertEqual(reached(house, days, hand), slow_reached(house, days, hand))
                for blank in range(house.letter_size):
                    self.assertEqual(leading(house, days, blank), slow_leading(house, days, blank))

    def test_couples_of_all_stories(self):
        none = several = 0
        for rng, house in random_houses(651, 40):
            for days in (0, 1, 3, 5):
                for hand, blank in ends_of(house):
                    stories = slow_stories(house, days, hand, blank)
                    day = rng.randint(0, days)
                    couples = tuple(sorted({story[day] for story in stories}))
                    self.assertEqual(couples_on(house, days, hand, blank, day), couples)
                    self.assertEqual(worths_on(house, days, hand, blank, day),
                                     OnDay(tuple(sorted({hand2 for hand2, _ in couples})),
                                           tuple(sorted({letter for _, letter in couples}))))
                    both = set(reached(house, day, hand)) & set(leading(house, days - day, blank))
                    self.assertEqual(couples, tuple(sorted(both)))
                    none += not couples
                    several += len(couples) > 1
        self.assertTrue(none > 20 and several > 20)

    def test_far_days(self):
        # With turns of 2 and 3 days.
        house = House(3, 2, [(1, 0), (1, 1), (2, 0), (0, 0), (0, 1), (2, 1)])
        for one in (house, EXAMPLE, FORKED, ENDING, KEEPING, house.mirrored()):
            for hand, blank in ends_of(one):
                turn = 2 * 2 * 2 * 3 * 5 * 7
                for days in (FAR, FAR - 1, FAR - 5):
                    near = turn + days % turn
                    self.assertEqual(reached(one, days, hand), slow_reached(one, near, hand))
                    self.assertEqual(leading(one, days, blank), slow_leading(one, near, blank))
                for day in (0, 1, FAR // 2, FAR - 1, FAR):
                    ahead = set(leading(one, FAR - day, blank))
                    couples = tuple(couple for couple in reached(one, day, hand) if couple in ahead)
                    self.assertEqual(couples_on(one, FAR, hand, blank, day), couples)
        self.assertEqual(couples_on(ENDING, FAR, 0, 0, 0), ())
        self.assertEqual(worths_on(ENDING, FAR, 0, 0, 5), OnDay((), ()))
        self.assertEqual(worths_on(EXAMPLE, FAR, 1, 0, 10 ** 29), OnDay((0, 1), (0, 1)))
        self.assertEqual(couples_on(EXAMPLE, FAR, 1, 0, FAR), ((0, 0),))

    def test_errors(self):
        for days in NO_DAYS:
            self.refuse(BadDays, days, reached, EXAMPLE, days, 9)
            self.refuse(BadDays, days, leading, EXAMPLE, days, 9)
            self.refuse(BadDays, days, couples_on, EXAMPLE, days, 9, 9, None)
            self.refuse(BadDays, days, worths_on, EXAMPLE, days, 9, 9, None)
        for thing in NO_BITS:
            self.refuse(BadHand, thing, reached, EXAMPLE, 3, thing)
            self.refuse(BadLetter, thing, leading, EXAMPLE, 3, thing)
            for function in (couples_on, worths_on):
                self.refuse(BadHand, thing, function, EXAMPLE, 3, thing, 9, None)
                self.refuse(BadLetter, thing, function, EXAMPLE, 3, 1, thing, None)
        for function in (couples_on, worths_on):
            for day in [thing for thing in ODD_THINGS if not (type(thing) is int and 0 <= thing <= 3)] + [4, -1]:
                self.refuse(BadDay, day, function, EXAMPLE, 3, 1, 0, day)
            # BadDay comes last, also if there is no story.
            self.refuse(BadDay, 4, function, ENDING, 3, 1, 0, 4)
            self.refuse(BadDay, FAR + 1, function, EXAMPLE, FAR, 1, 0, FAR + 1)

    def test_last_that_matters(self):
        numbers = nones = 0
        for _, house in random_houses(652, 150):
            found = last_that_matters(house)
            for least, slow, many in [(found.back, slow_reached, house.hand_size),
                                      (found.ahead, slow_leading, house.letter_size)]:
                lots = [{slow(house, days, worth) for worth in range(many)} for days in range(60)]
                same = [days for days in range(40) if len(set().union(*lots[days:])) == 1]
                self.assertEqual(least, min(same) if same else None)
                numbers += least is not None and least > 1
                nones += least is None
        self.assertTrue(numbers > 10 and nones > 10)

    def test_days_between_are_the_same(self):
        checked = 0
        for rng, house in random_houses(653, 120):
            found = last_that_matters(house)
            if found.back is None or found.ahead is None:
                continue
            checked += 1
            rows = {couples_on(house, days, rng.randrange(house.hand_size), rng.randrange(house.letter_size), day)
                    for day in range(found.back, found.back + 4) for days in range(day + found.ahead, day + found.ahead + 4)}
            self.assertEqual(len(rows), 1)
        self.assertGreater(checked, 10)

    def test_examples(self):
        self.assertEqual(last_that_matters(KEEPING), Matters(None, None))
        self.assertEqual(last_that_matters(ENDING), Matters(4, 4))
        # All couples are reached at once whatever was handed on; what leads on hangs on the blank for ever.
        wide = House(2, 2, [(0, 0), (1, 0), (0, 1), (1, 1)])
        self.assertEqual(reached(wide, 1, 0), ((0, 0), (1, 1)))
        self.assertEqual(last_that_matters(wide), Matters(1, 1))

    def test_results(self):
        self.assertEqual((OnDay(1, []).hands, OnDay(1, []).letters), (1, []))
        self.assertEqual((Matters(1, None).back, Matters(1, None).ahead), (1, None))
        self.assertTrue(OnDay(1, 2) == OnDay(1, 2) and Matters(1, 2) == Matters(1, 2))
        for other in (OnDay(1, 3), OnDay(3, 2), Matters(1, 2), None):
            self.assertTrue(OnDay(1, 2) != other)
        for other in (Matters(1, 3), Matters(3, 2), OnDay(1, 2), None):
            self.assertTrue(Matters(1, 2) != other)


if __name__ == "__main__":
    unittest.main()
