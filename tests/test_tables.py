import random
import unittest
from fractions import Fraction
from math import gcd

from alreadytold.errors import BadLot, BadTable, NoRing
from alreadytold.tables import check_table, closed_lots, lot_beats, lot_shares
from samples import ODD_THINGS, after_turn, fraction, random_shares, ratio, slow_closed, slow_power

ZERO, ONE, HALF = (0, 1), (1, 1), (1, 2)


def random_table(rng, many, leads=3):
    table = []
    for _ in range(many):
        row = [ZERO] * many
        goals = rng.sample(range(many), rng.randint(1, min(leads, many)))
        for goal, share in zip(goals, random_shares(rng, len(goals))):
            row[goal] = share
        table.append(row)
    return table


def fractions(table):
    return [[fraction(share) for share in row] for row in table]


def ring_table(lengths, extra=0):
    """Rings of these lengths, one behind the other, then numbers that lead evenly to all."""
    many = sum(lengths) + extra
    table = [[ZERO] * many for _ in range(many)]
    first = 0
    for length in lengths:
        for place in range(length):
            table[first + place][first + (place + 1) % length] = ONE
        first += length
    for place in range(first, many):
        table[place] = [(1, many)] * many
    return table


class Checking(unittest.TestCase):
    def refuse(self, index, what, table):
        for function in (check_table, closed_lots, lambda thing: lot_shares(thing, None),
                         lambda thing: lot_beats(thing, None)):
            with self.assertRaises(BadTable) as caught:
                function(table)
            self.assertEqual((caught.exception.index, caught.exception.what), (index, what))

    def test_many(self):
        for table in [None, [], (), "ab", {}, 3, [[ONE]] * 65, object()]:
            self.refuse(0, "many", table)

    def test_row(self):
        for row in [None, [], [ONE], [ONE, ZERO, ZERO], "ab", {0: ONE, 1: ZERO}]:
            self.refuse(0, "row", [row, None])
            self.refuse(1, "row", [[ONE, ZERO], row])

    def test_ratio(self):
        for thing in ODD_THINGS + [[1, 2], (2, 4), (0, 2), (1, -2), (1, 0)]:
            if thing != (1, 2) or isinstance(thing, list):
                self.refuse(1, "ratio", [[ONE, ZERO], [ONE, thing]])
        self.refuse(0, "ratio", [[1, 0], [0, 1]])

    def test_less(self):
        self.refuse(1, "less", [[ONE, ZERO], [(2, 1), (-1, 1)]])
        self.refuse(0, "less", [[(-1, 1), (-1, 1)], None])

    def test_sum(self):
        self.refuse(0, "sum", [[HALF, (1, 3)], None])
        self.refuse(1, "sum", [[ONE, ZERO], [ZERO, ZERO]])
        self.refuse(1, "sum", [[ONE, ZERO], [ONE, (1, 10 ** 99)]])

    def test_each_word_of_a_row_ahead_of_the_next(self):
        self.refuse(0, "ratio", [[(-1, 2), None], None])
        self.refuse(0, "less", [[(3, 1), (-1, 2)], None])
        self.refuse(0, "sum", [[HALF, ZERO], []])

    def test_tuples(self):
        expected = ((HALF, HALF), (ZERO, ONE))
        for kind in (list, tuple):
            self.assertEqual(check_table(kind([kind([HALF, HALF]), kind([ZERO, ONE])])), expected)
        self.assertEqual(check_table([[ONE]]), ((ONE,),))

    def test_what_is_changed_later(self):
        row = [HALF, HALF]
        table = [row, row]
        checked = check_table(table)
        row[0] = None
        self.assertEqual(checked, ((HALF, HALF), (HALF, HALF)))


class Lots(unittest.TestCase):
    def test_against_the_words(self):
        rng = random.Random(41)
        for _ in range(120):
            table = random_table(rng, rng.randint(1, 9))
            numbers = fractions(table)
            lots = closed_lots(table)
            self.assertEqual(lots, tuple(slow_closed(numbers)))
            self.assertGreater(len(lots), 0)
            for lot in lots:
                shares = [fraction(share) for share in lot_shares(table, lot)]
                self.assertEqual(sum(shares), 1)
                self.assertEqual(after_turn(numbers, shares), shares)
                self.assertEqual([number for number, share in enumerate(shares) if share > 0], list(lot))
                self.check_beats(numbers, lot, lot_beats(table, lot))

    def check_beats(self, table, lot, beats):
        self.assertEqual(sorted(number for beat in beats for number in beat), list(lot))
        self.assertEqual(beats[0][0], lot[0])
        for place, beat in enumerate(beats):
            self.assertEqual(beat, tuple(sorted(beat)))
            following = beats[(place + 1) % len(beats)]
            for number in beat:
                for goal, share in enumerate(table[number]):
                    self.assertTrue(share == 0 or goal in following)
        lengths = 0
        for turns in range(1, 2 * len(lot) + 2):
            power = slow_power([[table[i][j] for j in lot] for i in lot], turns)
            if power[0][0] > 0:
                lengths = gcd(lengths, turns)
        self.assertEqual(len(beats), lengths)

    def test_examples(self):
        table = [[HALF, HALF, ZERO, ZERO], [ZERO, ZERO, ONE, ZERO], [ZERO, ONE, ZERO, ZERO], [ZERO, ZERO, ZERO, ONE]]
        self.assertEqual(closed_lots(table), ((1, 2), (3,)))
        self.assertEqual(lot_shares(table, [2, 1, 2]), (ZERO, HALF, HALF, ZERO))
        self.assertEqual(lot_beats(table, (2, 1)), ((1,), (2,)))
        self.assertEqual(lot_beats(table, [3, 3]), ((3,),))

    def test_shares_of_very_unlike_sizes(self):
        tiny, rest = (1, 10 ** 99), (10 ** 99 - 1, 10 ** 99)
        table = [[rest, tiny, ZERO], [ZERO, HALF, HALF], [ONE, ZERO, ZERO]]
        shares = lot_shares(table, (0, 1, 2))
        self.assertEqual(after_turn(fractions(table), [fraction(share) for share in shares]),
                         [fraction(share) for share in shares])
        self.assertEqual(shares[1], ratio(Fraction(2, 10 ** 99) / (1 + Fraction(3, 10 ** 99))))

    def test_numbers_that_vanish_up_to_the_moduli_of_the_solver(self):
        first, second = 2 ** 61 - 1, 2 ** 61 + 1
        bottom = 2 ** 200
        for top in (first, first * second, first * 3, 3 * first * second, first * second * (2 ** 61 + 3)):
            table = [[ZERO, ONE], [(top, bottom), (bottom - top, bottom)]]
            whole = top + bottom
            self.assertEqual(lot_shares(table, (0, 1)), (ratio(Fraction(top, whole)), ratio(Fraction(bottom, whole))))
        for prime in (first, first * second, 2 ** 521 // 2 ** 200 - 1):
            table = [[ZERO, (1, prime), ratio(Fraction(prime - 1, prime))],
                     [ratio(Fraction(prime - 2, prime)), (2, prime), ZERO],
                     [(1, prime), ratio(Fraction(prime - 1, prime)), ZERO]]
            shares = [fraction(share) for share in lot_shares(table, (0, 1, 2))]
            self.assertEqual(after_turn(fractions(table), shares), shares)
            self.assertEqual(sum(shares), 1)

    def test_refused_lots(self):
        table = [[HALF, HALF, ZERO], [ZERO, ONE, ZERO], [ZERO, ZERO, ONE]]
        for function in (lot_shares, lot_beats):
            for index, lot in [(0, None), (0, "1"), (0, {1: 1}), (0, 1), (0, [3]), (1, [1, -1, 7]), (1, [1, True]),
                               (2, (0, 1, None)), (0, [(1,)]), (0, ["1"])]:
                with self.assertRaises(BadLot) as caught:
                    function(table, lot)
                self.assertEqual(caught.exception.index, index)
            for lot, told in [([], ()), ([0], (0,)), ([1, 0, 1], (0, 1)), ([2, 1], (1, 2)), ((2, 0), (0, 2))]:
                with self.assertRaises(NoRing) as caught:
                    function(table, lot)
                self.assertEqual(caught.exception.lot, told)

    def test_64_rows(self):
        table = ring_table([12, 20, 1, 15], extra=16)
        lots = closed_lots(table)
        self.assertEqual([len(lot) for lot in lots], [12, 20, 1, 15])
        for lot in lots:
            self.assertEqual(lot_beats(table, lot), tuple((number,) for number in lot))
            self.assertEqual(lot_shares(table, lot), tuple((1, len(lot)) if number in lot else ZERO for number in range(64)))
        table = ring_table([64])
        table[63] = [HALF] + [ZERO] * 31 + [HALF] + [ZERO] * 31
        self.assertEqual(lot_beats(table, range(64) and tuple(range(64))),
                         tuple((number, number + 32) for number in range(32)))


if __name__ == "__main__":
    unittest.main()
