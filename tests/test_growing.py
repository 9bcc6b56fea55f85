import unittest
from itertools import product

from alreadytold.errors import BadHand, BadLetter
from alreadytold.growing import Doubling, Growth, doubling, doubling_fault, growth, never_two
from alreadytold.houses import House
from alreadytold.manydays import count_days, days_fault
from house_samples import (ENDING, EXAMPLE, FORKED, KEEPING, couples_of, ends_of, has_step, random_houses, slow_counts,
                           slow_leads)
from samples import ODD_THINGS

# From hand 3 a story can stay with each lesser hand on its way: (h, h) to itself and on to (h - 1, h - 1).
FALLING = House(4, 4, [(hand, hand) if letter == hand else (hand - 1, hand) if letter == hand - 1 else (0, (hand + 1) % 4)
                       for hand in range(4) for letter in range(4)])


def slow_way(house, hand, blank):
    """[8.7]: all couples of stories of any number of days."""
    leads = slow_leads(house)
    ahead = {couple for couple in leads if couple[0] == hand}
    while True:
        more = ahead | {lead for couple in ahead for lead in leads[couple]}
        if more == ahead:
            break
        ahead = more
    back = {couple for couple in leads if couple[1] == blank}
    while True:
        more = back | {couple for couple in leads if back & set(leads[couple])}
        if more == back:
            return ahead & back
        back = more


def loop_counts(house, couple, most):
    """Numbers of loops of a couple by their lengths, from 1 on."""
    leads = slow_leads(house)
    counts = {couple: 1}
    rows = []
    for _ in range(most):
        after = {}
        for here, many in counts.items():
            for lead in leads[here]:
                after[lead] = after.get(lead, 0) + many
        counts = after
        rows.append(counts.get(couple, 0))
    return rows


def slow_growth(house, hand, blank):
    """[8.7] word by word; loops of up to 40 steps show whether two are of one length."""
    way = slow_way(house, hand, blank)
    loops = {couple: loop_counts(house, couple, 40) for couple in way}
    looped = [couple for couple in way if any(loops[couple])]
    if not looped:
        return Growth("ends", None)
    if any(many > 1 for couple in looped for many in loops[couple]):
        return Growth("doubles", None)
    leads = slow_leads(house)
    reach = {}
    for couple in looped:
        seen, todo = {couple}, [couple]
        while todo:
            for lead in leads[todo.pop()]:
                if lead not in seen:
                    seen.add(lead)
                    todo.append(lead)
        reach[couple] = seen

    def most(couple):
        further = [other for other in looped if other in reach[couple] and couple not in reach[other]]
        return 1 + max([most(other) for other in further], default=0)

    return Growth("power", max(map(most, looped)) - 1)


class Growing(unittest.TestCase):
    def refuse(self, kind, told, function, *things):
        with self.assertRaises(kind) as caught:
            function(*things)
        self.assertEqual(list(vars(caught.exception).values()), [told], things)

    def test_never_two(self):
        nones = later = 0
        for _, house in random_houses(660, 120):
            for hand in range(house.hand_size):
                rows = slow_counts(house, hand, 60)
                for blank in range(house.letter_size):
                    several = [days for days in range(61) if rows[days][blank] > 1]
                    self.assertEqual(never_two(house, hand, blank), several[0] if several else None)
                    nones += not several
                    later += bool(several) and several[0] > 1
        self.assertTrue(nones > 50 and later > 20)
        self.assertEqual(never_two(EXAMPLE, 1, 0), 2)
        self.assertIsNone(never_two(EXAMPLE, 1, 1))
        self.assertIsNone(never_two(KEEPING, 0, 0))
        self.assertEqual(never_two(FORKED, 0, 0), 2)

    def test_kinds_by_the_words(self):
        kinds = {}
        for _, house in random_houses(661, 250):
            for hand, blank in ends_of(house):
                found = growth(house, hand, blank)
                self.assertEqual(found, slow_growth(house, hand, blank))
                kinds[(found.kind, found.power)] = kinds.get((found.kind, found.power), 0) + 1
        self.assertTrue({("ends", None), ("power", 0), ("power", 1), ("doubles", None)} <= set(kinds), kinds)

    def test_kinds_by_the_numbers(self):
        for _, house in random_houses(662, 120):
            for hand, blank in ends_of(house):
                found = growth(house, hand, blank)
                counts = [count_days(house, days, hand, blank) for days in range(0, 61)]
                if found.kind == "ends":
                    self.assertEqual(sum(counts[17:]), 0)
                elif found.kind == "power":
                    self.assertTrue(all(many <= 16 * (days + 1) ** found.power for days, many in enumerate(counts)))
                    self.assertTrue(any(many * 200 >= (days + 1) ** found.power for days, many in enumerate(counts[40:], 40)))
                else:
                    self.assertGreater(max(counts[40:]), 61)

    def test_powers(self):
        self.assertEqual(growth(ENDING, 0, 0), Growth("ends", None))
        self.assertEqual(growth(KEEPING, 1, 1), Growth("power", 0))
        self.assertEqual(growth(EXAMPLE, 1, 0), Growth("power", 1))
        self.assertEqual(growth(EXAMPLE, 0, 0), Growth("power", 0))
        self.assertEqual(growth(FORKED, 1, 1), Growth("doubles", None))
        for hand in range(4):
            for blank in range(hand + 1):
                self.assertEqual(growth(FALLING, hand, blank).kind, "power")
        powers = {growth(FALLING, hand, blank).power for hand, blank in ends_of(FALLING)}
        self.assertTrue(powers >= {1, 2, 3}, powers)
        for hand, blank in ends_of(FALLING):
            self.assertEqual(growth(FALLING, hand, blank), slow_growth(FALLING, hand, blank))

    def test_doubling(self):
        many = 0
        for rng, house in random_houses(663, 150):
            for hand, blank in ends_of(house):
                found = doubling(house, hand, blank)
                self.assertEqual(found is not None, growth(house, hand, blank).kind == "doubles")
                if found is None:
                    continue
                many += 1
                self.assertIsNone(doubling_fault(house, hand, blank, found.before, found.one, found.other, found.after))
                self.assertTrue(all(type(part) is tuple for part in vars(found).values()))
                # All orders of the two loops are stories, and unlike ones.
                for times in range(4):
                    stories = set()
                    for order in product([found.one, found.other], repeat=times):
                        story = found.before + sum(order, ()) + found.after
                        stories.add(story)
                        if len(story) <= 61:
                            self.assertIsNone(days_fault(house, len(story) - 1, hand, blank, story))
                        self.assertTrue(all(has_step(house, one, other) for one, other in zip(story, story[1:])))
                    self.assertEqual(len(stories), 2 ** times)
        self.assertGreater(many, 50)
        self.assertIsNone(doubling(EXAMPLE, 1, 0))

    def test_errors(self):
        for thing in [thing for thing in ODD_THINGS if not (type(thing) is int and 0 <= thing < 2)]:
            for function, more in [(never_two, ()), (growth, ()), (doubling, ()), (doubling_fault, (None,) * 4)]:
                self.refuse(BadHand, thing, function, EXAMPLE, thing, 9, *more)
                self.refuse(BadLetter, thing, function, EXAMPLE, 1, thing, *more)

    def test_fault(self):
        # (0, 0) and (1, 1) have steps to themselves and to each other.
        one, two = (0, 0), (1, 1)
        right = [[one], [one, one], [list(two), one], []]
        fault = lambda parts, hand=0, blank=0: doubling_fault(FORKED, hand, blank, *parts)
        self.assertIsNone(fault(right))
        self.assertIsNone(fault([(two, one), (one, one), (two, one), (two, one)], 1))
        for place in range(4):
            for thing in [thing for thing in ODD_THINGS if thing not in ((), [])] + [[(0, 2)], [(2, 0)], [one, None], "ab",
                                                                                    [(0, True)], {one: 0}]:
                parts = list(right)
                parts[place] = thing
                self.assertEqual(fault(parts, 1, 1), "couple")
        self.assertEqual(fault([[], [one], [one], [None]]), "couple")
        self.assertEqual(fault([[], [one, one], [two, one], []]), "couple")
        self.assertEqual(fault([[], [], [], []], 1, 1), "couple")
        self.assertEqual(fault(right, 1), "hand")
        self.assertEqual(fault([[one], [], [one], []], 1, 1), "hand")
        for loops in ([[], [one]], [[one], []], [[], []], [[one], [one, one]], [[one, one, one], [two, one]],
                      [[one, one], (list(one), one)], [[two, two], [one, one]], [[one, one], [one, two]],
                      [[two, two], [one, two]]):
            self.assertEqual(fault([[one]] + loops + [[]], 0, 1), "loop", loops)
        self.assertEqual(fault(right, 0, 1), "blank")
        self.assertEqual(fault(right[:3] + [[two]]), "blank")
        self.assertIsNone(fault(right[:3] + [[two]], 0, 1))
        for parts in ([[one, (0, 1), one], [one, one], [two, one], []], [[one], [(0, 1), one], [two, one], []],
                      [[one], [two, one], [(0, 1), one], []], [[one], [one, one], [two, one], [(1, 0)]],
                      [[one], [one, one], [two, one], [(0, 1), one]]):
            self.assertEqual(fault(parts), "step", parts)
        self.assertEqual(fault([[(0, 1)], [(0, 1)] * 2, [one, (0, 1)], []], 0, 1), "step")

    def test_fault_against_the_words(self):
        right = wrong = 0
        for rng, house in random_houses(664, 250):
            couples = couples_of(house)
            for hand, blank in ends_of(house):
                found = doubling(house, hand, blank)
                if found is None:
                    continue
                for _ in range(20):
                    before, one, other, after = [list(part) for part in vars(found).values()]
                    part = rng.choice([before, one, other, after])
                    if part and rng.random() < 0.8:
                        part[rng.randrange(len(part))] = rng.choice(couples)
                    elif rng.random() < 0.5:
                        part.append(rng.choice(couples))
                    end = before[-1]
                    good = (before[0][0] == hand and one != other and len(one) == len(other)
                            and one[-1] == other[-1] == end and (before + after)[-1][1] == blank
                            and all(has_step(house, *pair) for row in (before, [end] + one, [end] + other, [end] + after)
                                    for pair in zip(row, row[1:])))
                    self.assertEqual(doubling_fault(house, hand, blank, before, one, other, after) is None, good)
                    right += good
                    wrong += not good
        self.assertTrue(right > 100 and wrong > 100, (right, wrong))

    def test_results(self):
        self.assertEqual((Growth("a", 1).kind, Growth("a", 1).power), ("a", 1))
        self.assertEqual(list(vars(Doubling(1, [2], 3, 4)).values()), [1, [2], 3, 4])
        self.assertTrue(Growth("a", 1) == Growth("a", 1) and Doubling(1, 2, 3, 4) == Doubling(1, 2, 3, 4))
        for other in (Growth("b", 1), Growth("a", 2), None, "a"):
            self.assertTrue(Growth("a", 1) != other)
        for other in (Doubling(0, 2, 3, 4), Doubling(1, 0, 3, 4), Doubling(1, 2, 0, 4), Doubling(1, 2, 3, 0), None):
            self.assertTrue(Doubling(1, 2, 3, 4) != other)


if __name__ == "__main__":
    unittest.main()
