import random
import unittest

from alreadytold.boxes import Box
from alreadytold.charts import Chart, all_ins
from alreadytold.customs import shares_by
from alreadytold.errors import BadIns, BadLook, BadManner, BadPool, NoFilling, NoSuchBox, TooMany
from alreadytold.guesses import answers_of, check_looks, check_pool, fitting_charts, hidden_entries, outs_borne
from alreadytold.rings import rings_of
from alreadytold.spans import outs_of
from alreadytold.weighing import Nothing, weighed_outs
from samples import ODD_THINGS, fillings, identity_box, random_entry, slow_stories, slow_worked, small_charts

X, A, B = ("x", 2), ("a", 2), ("b", 3)
MANNERS = ["story", "ring", "slip"]
# At x 0 it keeps a, at x 1 it turns it over.
TURNING = Chart([X, A], [Box(0, [X, A], [A], [(0,), (1,), (1,), (0,)])], ["a"])


def slow_borne(chart, ins, manner):
    """[9.8] word by word."""
    places = [[wire[0] for wire in chart.wires].index(name) for name in chart.outs]
    if manner == "story":
        rows = slow_stories(chart, ins)
    else:
        posts = fillings(chart.letter_sizes)
        if manner == "ring":
            posts = [post for ring in rings_of(chart, ins) for post in ring]
        rows = [filling for post in posts for filling, _, _ in slow_worked(chart, ins, post)]
    return tuple(sorted({tuple(filling[place] for place in places) for filling in rows}))


def slow_answers(chart, ins, manner):
    return slow_borne(chart, ins, manner) or (None,)


def like_charts(rng, chart, many, chance=0.3):
    """Charts with the same wires and outs, each with some entries changed."""
    pool = [chart]
    while len(pool) < many:
        other = chart
        for _ in range(rng.choice([0, 1, 2, 4])):
            index = rng.randrange(len(chart.boxes))
            box = other.boxes[index]
            filling = rng.choice(fillings(box.take_sizes))
            try:
                other = other.with_box(index, box.with_entry(filling, random_entry(rng, box.make_sizes, chance)))
            except ValueError:
                pass
        pool.append(other)
    return pool


class Guesses(unittest.TestCase):
    def refuse(self, kind, told, function, *things):
        with self.assertRaises(kind) as caught:
            function(*things)
        self.assertEqual(list(vars(caught.exception).values()), list(told), things)

    def test_each_manner(self):
        nones = unlike = 0
        for _, chart, ins in small_charts(750, 80):
            for manner in MANNERS:
                borne = slow_borne(chart, ins, manner)
                self.assertEqual(outs_borne(chart, list(ins), manner), borne)
                self.assertEqual(answers_of(chart, list(ins), manner), borne or (None,))
                nones += not borne
            unlike += len({slow_borne(chart, ins, manner) for manner in MANNERS}) == 3
        self.assertTrue(nones > 3 and unlike > 3, (nones, unlike))

    def test_outs_with_shares_above_0(self):
        for _, chart, ins in small_charts(751, 50):
            weighed = weighed_outs(chart, ins)
            told = () if weighed == Nothing() else tuple(outs for outs, _ in weighed)
            self.assertEqual(outs_borne(chart, ins, "story"), told)
            seldom = outs_of(chart, ins, shares_by(chart, ins, ("seldom",)))
            self.assertEqual(outs_borne(chart, ins, "ring"), tuple(outs for outs, _ in seldom))
            for slip in [(1, 7), (1, 1)]:
                slipped = outs_of(chart, ins, shares_by(chart, ins, ("slip", slip)))
                self.assertEqual(outs_borne(chart, ins, "slip"), tuple(outs for outs, _ in slipped))
            if chart.is_sure:
                self.assertLessEqual(set(told), set(outs_borne(chart, ins, "ring")))

    def test_examples(self):
        self.assertEqual(outs_borne(TURNING, (1,), "story"), ())
        self.assertEqual(answers_of(TURNING, (1,), "story"), (None,))
        self.assertEqual(answers_of(TURNING, (1,), "ring"), ((0,), (1,)))
        # Without outs there is the one answer (), or None.
        plain = TURNING.with_outs([])
        self.assertEqual(answers_of(plain, (0,), "story"), ((),))
        self.assertEqual(answers_of(plain, (1,), "story"), (None,))
        # A story of a chance box need not be one of a ring.
        chance = Chart([A, B], [Box(0, [A], [A], [[((0,), (1, 2)), ((1,), (1, 2))], (1,)]), Box(1, [A], [B], [(0,), (2,)])], ["b"])
        self.assertEqual([answers_of(chart, (), manner) for chart in [chance] for manner in MANNERS],
                         [((0,), (2,)), ((2,),), ((0,), (2,))])

    def test_bad_ins_and_manners(self):
        for function in (outs_borne, answers_of):
            for ins, index in [(None, 0), ((), 0), ((2,), 0), ((0, 0), 1)]:
                self.refuse(BadIns, (index,), function, TURNING, ins, None)
            for manner in ODD_THINGS + ["Story", "rings", "story ", ["story"], ("ring",), {"slip": 1}]:
                self.refuse(BadManner, (manner,), function, TURNING, (0,), manner)

    def test_looks(self):
        looks = [[[0], "story", [1]], ((1,), "ring", None), [(1,), "slip", (0,)]]
        self.assertEqual(check_looks(TURNING, looks), (((0,), "story", (1,)), ((1,), "ring", None), ((1,), "slip", (0,))))
        self.assertEqual(check_looks(TURNING, []), ())
        self.assertEqual(len(check_looks(TURNING, looks * 4)), 12)
        self.refuse(BadLook, (0, "many"), check_looks, TURNING, looks * 4 + looks[:1])
        for thing in [thing for thing in ODD_THINGS if not isinstance(thing, (list, tuple))] + ["abc", {0: looks[0]}]:
            self.refuse(BadLook, (0, "many"), check_looks, TURNING, thing)
        bad = lambda index, what, look: self.refuse(BadLook, (index, what), check_looks, TURNING, looks[:index] + [look, None])
        for index in range(4):
            for look in ODD_THINGS + [((0,), "story"), ((0,), "story", None, None), "abc", {0: 1, 1: 2, 2: 3}]:
                bad(index, "look", look)
        for ins in ODD_THINGS + [(2,), (0, 0), (True,)]:
            if ins not in ((1,), [1]):
                bad(1, "ins", (ins, None, 5))
        for manner in ODD_THINGS + ["rings", ["ring"]]:
            bad(2, "manner", ((0,), manner, 5))
        for answer in ODD_THINGS + [(2,), (0, 0), (True,), "0", 0]:
            if answer is not None and answer not in ((1,), [1]):
                bad(0, "answer", ((0,), "ring", answer))
        self.assertEqual(check_looks(TURNING.with_outs([]), [((0,), "slip", [])]), (((0,), "slip", ()),))

    def test_pools(self):
        wider = Chart([X, A, B], list(TURNING.boxes) + [identity_box(B)], ["a"])
        pool = [TURNING, wider, TURNING]
        self.assertEqual(check_pool(pool), tuple(pool))
        self.assertEqual(type(check_pool(pool)), tuple)
        self.assertEqual(len(check_pool([TURNING] * 5)), 5)
        for thing in [thing for thing in ODD_THINGS if not isinstance(thing, (list, tuple))] + [[], (), [TURNING] * 6, TURNING,
                                                                                              {0: TURNING}, iter(pool)]:
            self.refuse(BadPool, (0,), check_pool, thing)
        others = [TURNING.with_outs([]), TURNING.with_outs(["x"]), TURNING.with_outs(["a", "x"]),
                  Chart([("x", 3), A], [identity_box(A)], ["a"]), Chart([("y", 2), A], [identity_box(A)], ["a"]),
                  Chart([X, ("a", 3)], [identity_box(("a", 3))], ["a"]), Chart([A], [identity_box(A)], ["a"])]
        for other in others + ODD_THINGS:
            self.refuse(BadPool, (1,), check_pool, [TURNING, other])
            self.refuse(BadPool, (2,), check_pool, [TURNING, wider, other, None])
        for thing in ODD_THINGS:
            self.refuse(BadPool, (0,), check_pool, [thing, TURNING])
        # The ins must stand in the same order.
        boxes = [Box(0, [X, ("y", 2)], [A], [(0,)] * 4)]
        self.refuse(BadPool, (1,), check_pool, [Chart([X, ("y", 2), A], boxes, []), Chart([("y", 2), X, A], boxes, [])])
        boxes = [Box(0, [], [A, X], [(0, 0)])]
        self.refuse(BadPool, (1,), check_pool, [Chart([X, A], boxes, ["x", "a"]), Chart([X, A], boxes, ["a", "x"])])

    def test_fitting_charts(self):
        some = 0
        for rng, chart, _ in small_charts(752, 25):
            pool = like_charts(rng, chart, 4)
            looks = []
            for _ in range(rng.randint(0, 3)):
                ins, manner = rng.choice(all_ins(chart)), rng.choice(MANNERS)
                looks.append([list(ins), manner, rng.choice(slow_answers(rng.choice(pool), ins, manner))])
            expected = tuple(index for index, other in enumerate(pool)
                             if all(answer in slow_answers(other, ins, manner) for ins, manner, answer in looks))
            self.assertEqual(fitting_charts(pool, looks), expected)
            some += 0 < len(expected) < 4
        self.assertGreater(some, 4)
        self.assertEqual(fitting_charts([TURNING], []), (0,))
        self.refuse(BadPool, (1,), fitting_charts, [TURNING, None], None)
        self.refuse(BadLook, (0, "many"), fitting_charts, [TURNING], None)
        self.refuse(BadLook, (1, "answer"), fitting_charts, [TURNING, TURNING], [((0,), "ring", (0,)), ((0,), "slip", (5,))])

    def test_hidden_entries(self):
        some = none = 0
        for rng, chart, _ in small_charts(753, 40):
            number = rng.randrange(len(chart.boxes))
            box = chart.boxes[number]
            filling = rng.choice(fillings(box.take_sizes))
            looks = []
            for _ in range(rng.randint(1, 3)):
                ins, manner = rng.choice(all_ins(chart)), rng.choice(MANNERS)
                looks.append((ins, manner, rng.choice(slow_answers(chart, ins, manner))))
            if rng.random() < 0.2:
                looks.append((all_ins(chart)[0], "story", None))
            expected = []
            for row in fillings(box.make_sizes):
                other = chart.with_box(number, box.with_entry(filling, row))
                if all(answer in slow_answers(other, ins, manner) for ins, manner, answer in looks):
                    expected.append(row)
            self.assertEqual(hidden_entries(chart, number, list(filling), looks), tuple(expected))
            some += 0 < len(expected) < len(fillings(box.make_sizes))
            none += not expected
        self.assertTrue(some > 5 and none > 0, (some, none))

    def test_hidden_entries_without_looks(self):
        self.assertEqual(hidden_entries(TURNING, 0, (1, 0), []), ((0,), (1,)))
        # No story at x 1: both entries there must turn over.
        self.assertEqual(hidden_entries(TURNING, 0, (1, 0), [((1,), "story", None)]), ((1,),))

    def test_refusals_of_hidden_entries(self):
        wires = [("a", 4), ("b", 4), ("c", 4), ("d", 2)]
        wide = Chart(wires, [Box(0, [], wires, [(0, 0, 0, 0)])], [])
        for number in ODD_THINGS + [-1, 2]:
            if number != 0 or number is False:
                self.refuse(NoSuchBox, (number,), hidden_entries, wide, number, None, None)
        for thing in ODD_THINGS + [(0,), (0, 0, 0), (2, 0), (0, True), "00"]:
            self.refuse(NoFilling, (thing,), hidden_entries, TURNING, 0, thing, None)
        self.refuse(NoFilling, ((0,),), hidden_entries, wide, 0, (0,), None)
        self.refuse(TooMany, (64,), hidden_entries, wide, 0, (), None)
        self.refuse(BadLook, (0, "many"), hidden_entries, TURNING, 0, (0, 0), None)
        self.refuse(BadLook, (0, "manner"), hidden_entries, TURNING, 0, (0, 0), [((0,), None, None)])
        # 64 fillings of the makes are let.
        full = Chart(wires[:3], [Box(0, [], wires[:3], [(0, 0, 0)])], ["a", "b", "c"])
        self.assertEqual(hidden_entries(full, 0, [], [((), "story", (1, 2, 3))]), ((1, 2, 3),))

    def test_nothing_is_changed(self):
        rng = random.Random(754)
        pool = like_charts(rng, TURNING, 3)
        looks = [[[0], "ring", [0]]]
        fitting_charts(pool, looks)
        hidden_entries(TURNING, 0, [0, 0], looks)
        self.assertEqual((len(pool), looks), (3, [[[0], "ring", [0]]]))


if __name__ == "__main__":
    unittest.main()
