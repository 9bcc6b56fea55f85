import random
import unittest
from fractions import Fraction
from itertools import combinations

from alreadytold.charts import all_ins
from alreadytold.errors import BadFinder, BadGaps, BadIns, BadPost
from alreadytold.finders import (Finder, customs_agree, finder_chart, gaps_of, mean_turns, order_with_gaps,
                                 passing_posts, steps_to_pass)
from alreadytold.rings import rings_of
from alreadytold.seldom import seldom
from alreadytold.weighing import Nothing, weighed_posts
from samples import ODD_THINGS, fillings, fraction, ratio

STAYS = [(0, 1), (0, 1), (1, 3), (5, 7), (1, 10 ** 99)]


def random_finder(rng, stay=None):
    while True:
        ins = [rng.choice([2, 3]) for _ in range(rng.randint(0, 2))]
        letters = [rng.choice([2, 3, 4]) for _ in range(rng.randint(1, 2))]
        if len(fillings(ins)) <= 6:
            break
    posts = fillings(letters)
    share = rng.choice([0.0, 0.2, 0.5, 1.0])
    checks = [[int(rng.random() < share) for _ in posts] for _ in fillings(ins)]
    order = rng.sample(range(len(posts)), len(posts)) if rng.random() < 0.7 else None
    return Finder(ins, letters, checks, order, rng.choice(STAYS) if stay is None else stay)


def drawn_finders(seed, many):
    rng = random.Random(seed)
    for _ in range(many):
        finder = random_finder(rng)
        yield rng, finder, rng.choice(fillings(finder.ins))


def slow_next(finder, post):
    """[9.1]: the post behind it in the order, that of the last one the first."""
    posts = fillings(finder.letters)
    place = finder.order.index(posts.index(post))
    return posts[finder.order[(place + 1) % len(posts)]]


def slow_passing(finder, ins):
    row = finder.checks[fillings(finder.ins).index(tuple(ins))]
    return [post for post, check in zip(fillings(finder.letters), row) if check == 1]


def slow_steps(finder, ins, post):
    passing = slow_passing(finder, ins)
    steps = 0
    while passing and post not in passing:
        post = slow_next(finder, post)
        steps += 1
    return (steps, post) if passing else (None, None)


class Finders(unittest.TestCase):
    def refuse(self, kind, told, function, *things):
        with self.assertRaises(kind) as caught:
            function(*things)
        self.assertEqual(list(vars(caught.exception).values()), list(told), things)

    def test_attributes(self):
        checks = [[0, 1, 0], [1, 1, 0]]
        finder = Finder([2], [3], checks, [2, 0, 1], (1, 2))
        checks[0][0] = 1
        self.assertEqual(list(vars(finder).values()), [(2,), (3,), ((0, 1, 0), (1, 1, 0)), (2, 0, 1), (1, 2)])
        plain = Finder((), (2, 3), ((0, 1, 0, 1, 0, 1),))
        self.assertEqual((plain.order, plain.stay, plain.ins), ((0, 1, 2, 3, 4, 5), (0, 1), ()))
        self.assertEqual(Finder([], [2], [[0, 1]], None).order, (0, 1))

    def test_equality(self):
        told = ([2], [2], [[0, 1], [1, 1]], [1, 0], (1, 2))
        self.assertTrue(Finder(*told) == Finder((2,), (2,), ((0, 1), (1, 1)), (1, 0), (1, 2)))
        self.assertFalse(Finder(*told) != Finder(*told))
        self.assertTrue(Finder([2], [2], [[0, 1], [1, 1]]) == Finder([2], [2], [[0, 1], [1, 1]], [0, 1]))
        for other in (Finder([2], [2], [[0, 1], [1, 0]], [1, 0], (1, 2)), Finder([2], [2], told[2], [0, 1], (1, 2)),
                      Finder([2], [2], told[2], [1, 0]), Finder([], [2], [[0, 1]], [1, 0], (1, 2)), told, None):
            self.assertTrue(Finder(*told) != other)
        self.assertTrue(Finder([2, 2], [4], [[0] * 4] * 4) != Finder([4], [4], [[0] * 4] * 4))
        self.assertTrue(Finder([], [2, 2], [[0] * 4]) != Finder([], [4], [[0] * 4]))

    def test_bad_finders(self):
        sizes = [thing for thing in ODD_THINGS if thing != 2] + [5]
        bad = lambda *told: lambda *things: self.refuse(BadFinder, told, Finder, *things)
        for thing in [thing for thing in ODD_THINGS if thing not in ((), [])]:
            if isinstance(thing, (list, tuple)) and len(thing) < 3:
                continue
            bad(0, "ins")(thing, None, None)
        bad(0, "ins")([2, 2, 2], None, None)
        for size in sizes:
            bad(0, "ins")([size], None, None)
            bad(1, "ins")([2, size], None, None)
            bad(0, "letters")([], [size, 9], None)
            bad(1, "letters")([2], (4, size), None)
        for thing in [(), [], [2, 2, 2], None, 2, {2: 2}, "2"]:
            bad(0, "letters")([2], thing, None)
        for thing in [thing for thing in ODD_THINGS if not (isinstance(thing, (list, tuple)) and len(thing) == 2)] + [
                [[0, 1]], [[0, 1]] * 3]:
            bad(0, "checks")([2], [2], thing)
        for row in [thing for thing in ODD_THINGS if not (isinstance(thing, (list, tuple)) and len(thing) == 2)] + [[0] * 3]:
            bad(1, "row")([2], [2], [[0, 1], row], None, None)
        for check in [thing for thing in ODD_THINGS if not (type(thing) is int and thing in (0, 1))] + [2]:
            bad(0, "check")([2], [2], [[0, check], None])
            bad(1, "check")([2], [2], [[0, 1], [check, check]], 9, 9)
        for order in [thing for thing in ODD_THINGS if thing is not None] + [[0], [0, 0], [1, 2], [0, 1, 2], [0, True], "01"]:
            bad(0, "order")([2], [2], [[0, 1], [1, 1]], order, 9)
        for stay in ODD_THINGS + [(1, 1), (-1, 2), (3, 2), (2, 4), [1, 2], (0, 2), (1, 2, 3), (True, 2)]:
            if stay != (1, 2):
                bad(0, "stay")([2], [2], [[0, 1], [1, 1]], [1, 0], stay)

    def test_words_in_their_order(self):
        self.refuse(BadFinder, (1, "ins"), Finder, [2, 5], [1], None)
        self.refuse(BadFinder, (0, "letters"), Finder, [2], [1], None)
        self.refuse(BadFinder, (0, "checks"), Finder, [2], [2], [None])
        self.refuse(BadFinder, (0, "check"), Finder, [2], [2], [[2, 0], [0]])
        self.refuse(BadFinder, (1, "row"), Finder, [2], [2], [[1, 0], [2]])
        self.refuse(BadFinder, (0, "order"), Finder, [2], [2], [[1, 0], [0, 0]], [2], (1, 1))

    def test_chart_entry_by_entry(self):
        with_stay = 0
        for rng, finder, _ in drawn_finders(710, 40):
            chart = finder_chart(finder)
            ins = list(zip(["xa", "xb"], finder.ins))
            letters = list(zip(["ya", "yb"], finder.letters))
            self.assertEqual((chart.wires, len(chart.boxes)), (tuple(ins + letters), 1))
            box = chart.boxes[0]
            self.assertEqual((box.day, box.takes, box.makes), (0, chart.wires, tuple(letters)))
            self.assertEqual((chart.outs, chart.letters), (tuple(name for name, _ in letters),) * 2)
            self.assertEqual(chart.ins, tuple(name for name, _ in ins))
            for row in fillings(finder.ins):
                for post in fillings(finder.letters):
                    if post in slow_passing(finder, row):
                        expected = ((post, (1, 1)),)
                    elif finder.stay == (0, 1):
                        expected = ((slow_next(finder, post), (1, 1)),)
                    else:
                        with_stay += 1
                        rest = ratio(1 - fraction(finder.stay))
                        expected = tuple(sorted([(post, finder.stay), (slow_next(finder, post), rest)]))
                    self.assertEqual(box.made_by(row + post), expected)
        self.assertGreater(with_stay, 50)

    def test_walking_along_the_order(self):
        nones = 0
        for rng, finder, ins in drawn_finders(711, 80):
            posts = fillings(finder.letters)
            passing = slow_passing(finder, ins)
            self.assertEqual(passing_posts(finder, list(ins)), tuple(passing))
            walks = [slow_steps(finder, ins, post) for post in posts]
            for post, (steps, _) in zip(posts, walks):
                self.assertEqual(steps_to_pass(finder, list(ins), list(post)), steps)
            firsts = [first for _, first in walks]
            self.assertEqual(gaps_of(finder, list(ins)), tuple(firsts.count(post) for post in passing))
            self.assertEqual(sum(gaps_of(finder, ins)), len(posts) if passing else 0)
            if passing:
                mean = Fraction(sum(steps for steps, _ in walks), len(posts)) / (1 - fraction(finder.stay))
                self.assertEqual(mean_turns(finder, ins), ratio(mean))
            else:
                nones += 1
                self.assertIsNone(mean_turns(finder, ins))
                self.assertEqual((gaps_of(finder, ins), passing_posts(finder, ins)), ((), ()))
        self.assertGreater(nones, 5)

    def test_mean_turns_by_turns(self):
        # The mean number of turns until a post passes: 0 at it, else one more than that of what comes.
        finder = Finder([], [4], [[0, 0, 1, 0]], [0, 1, 2, 3], (1, 4))
        stay = Fraction(1, 4)
        turns = {2: Fraction(0)}
        for post, following in [(1, 2), (0, 1), (3, 0)]:
            turns[post] = 1 / (1 - stay) + turns[following]
        self.assertEqual(mean_turns(finder, ()), ratio(sum(turns.values()) / 4))
        self.assertEqual(mean_turns(Finder([], [2], [[1, 1]], None, (1, 2)), []), (0, 1))

    def test_errors_as_of_the_chart(self):
        finder = Finder([2, 3], [2, 2], [[0, 1, 0, 0]] * 6)
        for function in (passing_posts, gaps_of, mean_turns, customs_agree):
            for ins, index in [(None, 0), ([], 0), ([0], 1), ([2, 0], 0), ([0, 3], 1), ([0, 0, 0], 2), ([True, 0], 0),
                               ("00", 0)]:
                self.refuse(BadIns, (index,), function, finder, ins)
                self.refuse(BadIns, (index,), steps_to_pass, finder, ins, None)
        for post, index in [(None, 0), ([], 0), ([0], 1), ([0, 2], 1), ([0, 0, 0], 2), ([0, False], 1), (1, 0)]:
            self.refuse(BadPost, (index,), steps_to_pass, finder, [0, 0], post)
            self.refuse(BadPost, (index,), steps_to_pass, Finder([], [2, 2], [[0] * 4]), [], post)

    def test_order_with_gaps_for_all_small_numbers(self):
        for letters in ([2], [3], [4], [2, 3]):
            many = len(fillings(letters))
            for length in range(1, many + 1):
                for numbers in combinations(range(many), length):
                    for gaps in fillings([many + 1] * length) if length < 4 else [[1] * (length - 1) + [many - length + 1]]:
                        if 0 in gaps or sum(gaps) != many:
                            continue
                        order = order_with_gaps(many, list(numbers), list(gaps))
                        checks = [[int(number in numbers) for number in range(many)]]
                        self.assertEqual(gaps_of(Finder([], letters, checks, order), ()), tuple(gaps))
                        others = [number for number in range(many) if number not in numbers]
                        expected = []
                        for number, gap in zip(numbers, gaps):
                            expected += others[:gap - 1] + [number]
                            others = others[gap - 1:]
                        self.assertEqual(order, tuple(expected))

    def test_order_with_gaps(self):
        self.assertEqual(order_with_gaps(6, (1, 4), (4, 2)), (0, 2, 3, 1, 5, 4))
        self.assertEqual(order_with_gaps(16, [15], [16]), tuple(range(16)))
        self.assertEqual(order_with_gaps(2, [0, 1], [1, 1]), (0, 1))

    def test_bad_gaps(self):
        bad = lambda *told: lambda *things: self.refuse(BadGaps, told, order_with_gaps, *things)
        for many in [thing for thing in ODD_THINGS if not (type(thing) is int and 2 <= thing <= 16)] + [17, 1, 0]:
            bad(0, "many")(many, None, None)
        for numbers in [thing for thing in ODD_THINGS if not (isinstance(thing, (list, tuple)) and len(thing) in (1, 2, 3))] + [
                [0, 1, 2, 3], "0", {0: 1}]:
            bad(0, "numbers")(3, numbers, None)
        for number in [thing for thing in ODD_THINGS if not (type(thing) is int and 0 <= thing < 3)] + [3, -1]:
            bad(0, "number")(3, [number, None], None)
        for number in [0, 1, None, 3, True]:
            bad(1, "number")(3, [1, number], None)
        for gaps in [thing for thing in ODD_THINGS if not (isinstance(thing, (list, tuple)) and len(thing) == 2)] + [[1], [1, 1, 1]]:
            bad(0, "gaps")(3, [1, 2], gaps)
        for gap in [thing for thing in ODD_THINGS if not (type(thing) is int and thing >= 1)]:
            bad(0, "gap")(3, [1, 2], [gap, 0])
            bad(1, "gap")(3, [1, 2], [9, gap])
        for gaps in [(1, 1), (2, 2), (3, 1), (10 ** 50, 1)]:
            bad(0, "sum")(3, [1, 2], gaps)

    def test_rings_and_shares(self):
        agree = {}
        for rng, finder, ins in drawn_finders(712, 120):
            chart = finder_chart(finder)
            posts = fillings(finder.letters)
            passing = slow_passing(finder, ins)
            many, stay = len(posts), fraction(finder.stay)
            gaps = dict(zip(passing, gaps_of(finder, ins)))
            if passing:
                self.assertEqual(rings_of(chart, ins), tuple((post,) for post in passing))
                shares = [ratio(Fraction(gaps.get(post, 0), many)) for post in posts]
            else:
                self.assertEqual(rings_of(chart, ins), (tuple(posts),))
                shares = [(1, many)] * many
            self.assertEqual(seldom(chart, ins), tuple(shares))
            weighed = weighed_posts(chart, ins)
            if not passing and stay == 0:
                self.assertEqual(weighed, Nothing())
            else:
                whole = len(passing) + stay * (many - len(passing))
                self.assertEqual(weighed, tuple(ratio((1 if post in passing else stay) / whole) for post in posts))
            found = customs_agree(finder, ins)
            self.assertIs(found, weighed == tuple(shares))
            agree[(found, len(passing) == many, not passing, stay == 0)] = True
        self.assertTrue({(True, True, False, False), (True, True, False, True), (True, False, True, False),
                         (False, False, True, True), (False, False, False, False), (False, False, False, True),
                         (True, False, False, True)} <= set(agree), agree)

    def test_greatest_chart(self):
        rng = random.Random(713)
        order = rng.sample(range(16), 16)
        finder = Finder([4, 4], [4, 4], [[int(number % 5 == k % 5) for number in range(16)] for k in range(16)], order, (1, 3))
        chart = finder_chart(finder)
        self.assertEqual(len(chart.boxes[0].entries), 256)
        for ins in all_ins(chart)[::5]:
            self.assertEqual(len(gaps_of(finder, ins)), len(rings_of(chart, ins)))


if __name__ == "__main__":
    unittest.main()
