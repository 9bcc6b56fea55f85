"""What the modules of the interface share: sizes of bottoms, equations of flows, leading terms, rounded shares."""

import random
import unittest
from fractions import Fraction
from math import gcd

from alreadytold.leading import lasting_terms
from alreadytold.lots import least_walk, turned_about, turns_to
from alreadytold.nearing import is_surely_near
from alreadytold.scaling import mean_ratio, whole_parts, whole_rows
from alreadytold.sizing import coprime_base, powers_in
from alreadytold.solving import leaking_answers
from alreadytold.stepping import LotWalk
from alreadytold.wires import is_order
from samples import ODD_THINGS, fraction, random_shares, ratio, ringed_charts, slow_slipped, slow_solve, slow_table


class Sizes(unittest.TestCase):
    def test_coprime_base(self):
        rng = random.Random(501)
        for _ in range(300):
            numbers = [rng.choice([1, 2, 4, 6, 12, 35, 1000, 10 ** 40, rng.randint(1, 5000)]) for _ in range(rng.randint(0, 6))]
            base = coprime_base(numbers)
            self.assertTrue(all(part > 1 for part in base))
            self.assertTrue(all(gcd(one, other) == 1 for one in base for other in base if one != other))
            for number in numbers:
                whole = 1
                for part, power in zip(base, powers_in(number, base)):
                    whole *= part ** power
                self.assertEqual(whole, number)


class Means(unittest.TestCase):
    def test_mean_by_shares(self):
        rng = random.Random(505)
        for _ in range(60):
            many = rng.randint(1, 6)
            shares = random_shares(rng, many)
            ratios = [ratio(Fraction(rng.randint(-4, 9), rng.randint(1, 9))) for _ in range(many)]
            tops, bottom = whole_parts(shares)
            mean = sum(fraction(share) * fraction(part) for share, part in zip(shares, ratios))
            self.assertEqual(mean_ratio(tops, bottom, ratios), ratio(mean))


class Orders(unittest.TestCase):
    def test_orders(self):
        self.assertTrue(is_order([], 0) and is_order((2, 0, 1), 3) and is_order([1, 0], 2))
        for thing in ODD_THINGS + [(0, 1, 1), (0, 1), (0, 1, 3), (0, 1, 2, 3), (0, True, 2), (0.0, 1, 2), "012", {0: 0, 1: 1, 2: 2}]:
            self.assertFalse(is_order(thing, 3), thing)


def random_moves(rng, many):
    return [sorted(rng.sample(range(many), rng.choice([0, 1, 1, 2]) if many > 1 else 0)) for _ in range(many)]


class Moves(unittest.TestCase):
    def test_turned_about(self):
        rng = random.Random(506)
        for _ in range(60):
            moves = random_moves(rng, rng.randint(1, 7))
            back = turned_about(moves)
            self.assertEqual({(i, j) for i, row in enumerate(moves) for j in row},
                             {(i, j) for j, row in enumerate(back) for i in row})
            self.assertTrue(all(row == sorted(row) for row in back))
            self.assertEqual(turned_about(back), moves)

    def test_least_walks(self):
        rng = random.Random(507)
        walks = 0
        for _ in range(80):
            moves = random_moves(rng, 6)
            turns = turns_to(moves, [0])
            for here in range(6):
                if turns[here] is None:
                    continue
                found = [[here]]
                for _ in range(turns[here]):
                    found = [walk + [lead] for walk in found for lead in moves[walk[-1]]]
                self.assertEqual(least_walk(moves, turns, here), min(walk for walk in found if walk[-1] == 0))
                walks += turns[here] > 1
        self.assertGreater(walks, 20)

    def test_lots_after_many_moves(self):
        rng = random.Random(508)
        for _ in range(60):
            moves = random_moves(rng, 6)
            lot = tuple(sorted(rng.sample(range(6), 2)))
            walk = LotWalk(moves, lot)
            self.assertEqual(len(set(walk.lots)), len(walk.lots))
            for turns in range(40):
                self.assertEqual(walk.lot_after(turns), lot)
                lot = tuple(sorted({lead for number in lot for lead in moves[number]}))


class Flows(unittest.TestCase):
    def test_answers_of_any_sign(self):
        rng = random.Random(502)
        for _ in range(150):
            many = rng.randint(0, 5)
            away = [[0 if i == j else rng.choice([0, 1, 5, 10 ** 30]) for j in range(many)] for i in range(many)]
            leaving = [sum(row) + rng.choice([1, 3, 10 ** 20]) for row in away]
            rights = [[rng.choice([0, 1, -1, 7, -10 ** 40]) for _ in range(many)] for _ in range(rng.randint(1, 3))]
            square = [[leaving[i] if i == j else -away[j][i] for j in range(many)] for i in range(many)]
            expected = slow_solve(square, rights)
            found = [[Fraction(top, bottom) for top in tops] for tops, bottom in leaking_answers(away, leaving, rights)]
            self.assertEqual(found, expected)


class Leading(unittest.TestCase):
    def test_long_answers(self):
        # What could be meant by a few figures is no answer, unless it solves the equations.
        rng = random.Random(510)
        for number in range(60):
            many, length = rng.randint(1, 3), rng.choice([10 ** 150, 10 ** 300, 10 ** 1500])
            away = [[0 if i == j else rng.randrange(length) for j in range(many)] for i in range(many)]
            leaving = [sum(row) + rng.randrange(1, length) for row in away]
            right = [rng.choice([-1, 1]) * rng.randrange(rng.choice([9, length, length ** 2])) for _ in range(many)]
            square = [[leaving[i] if i == j else -away[j][i] for j in range(many)] for i in range(many)]
            found, bottom = leaking_answers(away, leaving, [right])[0]
            self.assertEqual([Fraction(top, bottom) for top in found], slow_solve(square, [right])[0])

    def test_short_answers_of_long_numbers(self):
        # The answers are short ratios, though the numbers would let very long ones be meant.
        rng = random.Random(509)
        for many, length in [(3, 10 ** 60), (6, 10 ** 200), (24, 10 ** 300)]:
            for bottom in (1, 7, 10 ** 20 + 39):
                away = [[0 if i == j else bottom * rng.randrange(length) for j in range(many)] for i in range(many)]
                leaving = [sum(row) + bottom * rng.randrange(1, length) for row in away]
                tops = [rng.randint(-9, 9) for _ in range(many)]
                sides = [leaving[i] * tops[i] - sum(away[j][i] * tops[j] for j in range(many)) for i in range(many)]
                self.assertEqual([side % bottom for side in sides], [0] * many)
                found, whole = leaking_answers(away, leaving, [[side // bottom for side in sides]])[0]
                self.assertEqual([Fraction(top, whole) for top in found], [Fraction(top, bottom) for top in tops])

    def test_against_a_small_number(self):
        rng = random.Random(503)
        e = Fraction(1, 10 ** 40)
        for _ in range(60):
            many = rng.randint(2, 5)
            rates = []
            for i in range(many):
                row = [(j, rng.randint(0, 4), rng.randint(1, 9)) for j in range(many) if j != i and rng.random() < 0.6]
                # Each number leads to each, if only by these moves.
                rates.append(row + [((i + 1) % many, rng.randint(0, 4), rng.randint(1, 9))])
            table = [[Fraction(0)] * many for _ in range(many)]
            for i, row in enumerate(rates):
                for j, order, weight in row:
                    table[i][j] += weight * e ** order
            square = [[(-sum(table[i]) if i == j else table[j][i]) for j in range(many)] for i in range(many)]
            shares = slow_solve(square[:-1] + [[Fraction(1)] * many], [[Fraction(0)] * (many - 1) + [Fraction(1)]])[0]
            orders, numbers, _ = lasting_terms(rates)
            self.assertEqual(min(orders), 0)
            whole = sum(number for order, number in zip(orders, numbers) if order == 0)
            for share, order, number in zip(shares, orders, numbers):
                self.assertLess(abs(share / e ** order / Fraction(number, whole) - 1), Fraction(1, 10 ** 30))


class Rounded(unittest.TestCase):
    def test_surely_near_or_not(self):
        rng = random.Random(504)
        seen = set()
        for _, chart, ins in ringed_charts(504, 60):
            table = slow_table(chart, ins)
            many = len(table)
            rows = whole_rows([[ratio(share) for share in row] for row in table])
            begun = [Fraction(1, many)] * many
            halvings = rng.choice([1, 3, 20, 200])
            shares = slow_slipped(table, Fraction(1, 2 ** halvings), begun)
            goal = [ratio(share + Fraction(rng.randint(-9, 9), 10 ** 3)) for share in shares]
            apart = max(abs(share - fraction(other)) for share, other in zip(shares, goal))
            for factor in [Fraction(1, 2), 1 - Fraction(1, 10 ** 20), 1, 1 + Fraction(1, 10 ** 20), 2]:
                within = apart * factor
                if within > 0:
                    found = is_surely_near(rows, [ratio(share) for share in begun], goal, halvings, ratio(within))
                    # Equality is never sure; all else here is far enough from it.
                    self.assertEqual(found, None if factor == 1 else factor > 1)
                    seen.add(found)
        self.assertEqual(seen, {True, False, None})


if __name__ == "__main__":
    unittest.main()
