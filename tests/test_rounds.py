import random
import unittest
from math import lcm

from alreadytold.errors import BadDays, BadRound
from alreadytold.rounds import Round
from samples import ODD_THINGS


def told(one):
    return (one.head, one.turn, one.lot)


def members(head, turn, lot, end):
    """[8.4] word by word: n from head on belongs exactly if n + turn does."""
    found = set(lot)
    for number in range(head + turn, end):
        if number - turn in found:
            found.add(number)
    return {number for number in found if number < end}


def slow_least(numbers, most):
    """The least turn, then the least head, of a set of numbers below 4 * most with a head and a turn below most."""
    end = 4 * most
    for turn in range(1, most + 1):
        if all((n in numbers) == (n + turn in numbers) for n in range(most, end - turn)):
            head = most
            while head and (head - 1 in numbers) == (head - 1 + turn in numbers):
                head -= 1
            return head, turn, tuple(n for n in range(head + turn) if n in numbers)
    raise AssertionError


def random_parts(rng, most=12):
    head, turn = rng.randint(0, most), rng.randint(1, most)
    share = rng.choice([0.1, 0.5, 0.9])
    lot = [number for number in range(head + turn) if rng.random() < share]
    if rng.random() < 0.5:
        # Often the set is one of a lesser turn.
        small = rng.choice([part for part in range(1, turn + 1) if turn % part == 0])
        lot = [n for n in range(head + turn) if (n < head and n in lot) or (n >= head and (n - head) % small in lot)]
    return head, turn, lot


class Rounds(unittest.TestCase):
    def refuse(self, kind, what, function, *things):
        with self.assertRaises(kind) as caught:
            function(*things)
        self.assertEqual(list(vars(caught.exception).values()), [what], things)

    def test_least_turn_and_head(self):
        less = 0
        rng = random.Random(630)
        for _ in range(400):
            head, turn, lot = random_parts(rng)
            one = Round(head, turn, rng.choice([tuple, list])(lot))
            self.assertEqual(told(one), slow_least(members(head, turn, lot, 96), 24))
            self.assertEqual(type(one.lot), tuple)
            less += one.turn < turn and one.head < head
        self.assertGreater(less, 20)
        self.assertEqual(told(Round(4, 6, (0, 1, 4, 7))), (1, 3, (0, 1)))
        self.assertEqual(told(Round(5, 1, [])), (0, 1, ()))
        self.assertEqual(told(Round(5, 4, list(range(9)))), (0, 1, (0,)))
        self.assertEqual(told(Round(2, 1, (0, 1))), (2, 1, (0, 1)))

    def test_equal_rounds_are_those_of_the_same_numbers(self):
        rng = random.Random(631)
        same = 0
        for _ in range(400):
            one, other = random_parts(rng, 4), random_parts(rng, 4)
            equal = members(*one, 60) == members(*other, 60)
            same += equal
            self.assertEqual(Round(*one) == Round(*other), equal)
            self.assertEqual(Round(*one) != Round(*other), not equal)
        self.assertGreater(same, 10)
        for thing in (None, 0, (0, 1, (0,)), [0]):
            self.assertFalse(Round(0, 1, (0,)) == thing)
            self.assertTrue(Round(0, 1, (0,)) != thing)

    def test_bad_rounds(self):
        for thing in [thing for thing in ODD_THINGS if not (type(thing) is int and 0 <= thing <= 10000)] + [10001]:
            self.refuse(BadRound, "head", Round, thing, 0, None)
        for thing in [thing for thing in ODD_THINGS if not (type(thing) is int and 1 <= thing <= 10000)] + [10001]:
            self.refuse(BadRound, "turn", Round, 3, thing, None)
        for lot in [thing for thing in ODD_THINGS if thing not in ((), [], (1,), [1], (1, 2))] + [
                (5,), (0, 5), (-1,), (1, 1), (2, 1), (0, True), (0, None), "01", {0: 1}, iter((0, 1)), (0, 1.0), ([0],)]:
            self.refuse(BadRound, "lot", Round, 3, 2, lot)

    def test_nothing_is_kept(self):
        lot = [0, 2]
        one = Round(2, 3, lot)
        lot.append(4)
        self.assertEqual(one, Round(2, 3, (0, 2)))

    def test_in(self):
        rng = random.Random(632)
        for _ in range(200):
            parts = random_parts(rng)
            one, numbers = Round(*parts), members(*parts, 80)
            self.assertEqual({number for number in range(80) if number in one}, numbers)
            far = rng.randint(0, parts[1] - 1) + parts[0]
            self.assertEqual(far + parts[1] * 10 ** 40 in one, far in numbers)
        every = Round(0, 1, (0,))
        for thing in ODD_THINGS + [1.0, "0", (0,)]:
            self.assertIs(thing in every, type(thing) is int and thing >= 0, thing)
        self.assertNotIn(-1, every)
        self.assertNotIn(True, Round(0, 2, (1,)))
        self.assertNotIn(False, every)

    def test_and_or_not(self):
        rng = random.Random(633)
        for _ in range(200):
            one, other = random_parts(rng, 8), random_parts(rng, 8)
            first, second = members(*one, 200), members(*other, 200)
            for result, numbers in [(Round(*one) & Round(*other), first & second),
                                    (Round(*one) | Round(*other), first | second),
                                    (~Round(*one), set(range(200)) - first)]:
                self.assertIsInstance(result, Round)
                self.assertEqual(members(*told(result), 200), numbers)
                self.assertEqual(result, Round(*told(result)))
        self.assertEqual(~~Round(3, 2, (1, 4)), Round(3, 2, (1, 4)))
        self.assertEqual(told(Round(0, 2, (0,)) & Round(0, 2, (1,))), (0, 1, ()))
        self.assertEqual(told(Round(0, 2, (0,)) | Round(0, 2, (1,))), (0, 1, (0,)))

    def test_least_common_multiple(self):
        one, other = Round(0, 100, (0,)), Round(0, 101, (0,))
        for both in (lambda: one & other, lambda: one | other):
            self.refuse(BadRound, "turn", both)
        self.assertEqual(lcm(100, 101), 10100)
        # 10000 itself is let.
        one, other = Round(0, 16, (0,)), Round(0, 625, (0,))
        self.assertEqual(told(one & other), (0, 10000, (0,)))
        self.assertEqual(len((one | other).lot), 625 + 16 - 1)
        # The least turns count, not those that were passed.
        self.assertEqual(told(Round(0, 9999, list(range(9999))) & Round(0, 10000, (0,))), (0, 10000, (0,)))

    def test_first_from(self):
        rng = random.Random(634)
        none = 0
        for _ in range(200):
            parts = random_parts(rng)
            one, numbers = Round(*parts), members(*parts, 120)
            for days in range(60):
                later = [number for number in numbers if number >= days]
                self.assertEqual(one.first_from(days), min(later) if later else None)
                none += not later
        self.assertGreater(none, 50)
        far = 10 ** 50
        one = Round(3, 7, (1, 4, 6))
        self.assertEqual(one.first_from(far), next(n for n in range(far, far + 9) if n in one))
        self.assertIsNone(Round(3, 1, (0, 2)).first_from(far))
        self.assertEqual(Round(3, 1, (0, 2)).first_from(1), 2)
        self.assertIsNone(Round(3, 1, (0, 2)).first_from(3))

    def test_many_below(self):
        rng = random.Random(635)
        for _ in range(200):
            parts = random_parts(rng)
            one, numbers = Round(*parts), members(*parts, 80)
            for days in range(80):
                self.assertEqual(one.many_below(days), len([number for number in numbers if number < days]))
        # Far numbers: each turn adds as many.
        one = Round(3, 7, (1, 4, 6))
        self.assertEqual(one.many_below(3 + 7 * 10 ** 40), 1 + 2 * 10 ** 40)
        self.assertEqual(one.many_below(3 + 7 * 10 ** 40 + 2), 1 + 2 * 10 ** 40 + 1)
        self.assertEqual(Round(0, 1, (0,)).many_below(10 ** 99), 10 ** 99)

    def test_bad_days(self):
        for thing in [thing for thing in ODD_THINGS if not (type(thing) is int and thing >= 0)] + [2.0]:
            self.refuse(BadDays, thing, Round(0, 1, (0,)).first_from, thing)
            self.refuse(BadDays, thing, Round(0, 1, (0,)).many_below, thing)

    def test_greatest(self):
        rng = random.Random(636)
        lots = [sorted(rng.sample(range(20000), 9000)) for _ in range(2)]
        one, other = Round(10000, 10000, lots[0]), Round(10000, 10000, lots[1])
        both, either, rest = one & other, one | other, ~one
        for number in [0, 9999, 10000, 19999, 20000, 10 ** 30] + [rng.randrange(10 ** 6) for _ in range(500)]:
            self.assertEqual(number in both, number in one and number in other)
            self.assertEqual(number in either, number in one or number in other)
            self.assertEqual(number in rest, number not in one)
            self.assertEqual(one.many_below(number) + rest.many_below(number), number)
        self.assertEqual(one.lot, tuple(lots[0]))


if __name__ == "__main__":
    unittest.main()
