import random
import unittest
from fractions import Fraction
from itertools import product

from alreadytold.boxes import Box
from alreadytold.charts import Chart, all_ins, posts_of
from alreadytold.customs import Customs, check_custom, customs_table, shares_by, story_not_sure, worth_shares
from alreadytold.errors import BadCustom, BadIns, NoWire
from alreadytold.rings import rings_of
from alreadytold.seldom import seldom
from alreadytold.single import single
from alreadytold.slips import slipped
from alreadytold.staying import own_shares
from alreadytold.sureouts import sure_everywhere
from alreadytold.tellings import Sure
from samples import (ODD_THINGS, example, fraction, random_chart, random_shares, ratio, ringed_charts, slow_known,
                     slow_stories, slow_worked, small_charts, sure_charts)

ZERO, ONE, HALF = (0, 1), (1, 1), (1, 2)
X, A, B = ("x", 2), ("a", 3), ("b", 2)


def some_customs(rng, chart, ins):
    rings = rings_of(chart, ins)
    begun = random_shares(rng, len(posts_of(chart)))
    ring = rng.randrange(len(rings))
    return [(("own", ring), own_shares(chart, ins, rings[ring])), (("seldom",), seldom(chart, ins)),
            (("single",), single(chart, ins)), (("slip", (1, 7)), slipped(chart, ins, (1, 7))),
            (("told", tuple(begun)), seldom(chart, ins, begun))]


def slow_worths(chart, ins, shares, name):
    """[7.3]: the sum over posts and rows of the post's share times the row's."""
    place = [wire for wire, _ in chart.wires].index(name)
    found = [Fraction(0)] * dict(chart.wires)[name]
    for post, share in zip(posts_of(chart), shares):
        for filling, _, part in slow_worked(chart, ins, post):
            found[filling[place]] += fraction(share) * fraction(part)
    return tuple(map(ratio, found))


def some(seed, many):
    return list(small_charts(seed, many)) + list(ringed_charts(seed, many))


class Custom(unittest.TestCase):
    def test_each_kind(self):
        for rng, chart, ins in some(451, 20):
            for custom, shares in some_customs(rng, chart, ins):
                listed = [list(thing) if custom[0] == "told" and thing is not custom[0] else thing for thing in custom]
                self.assertEqual(check_custom(chart, list(ins), listed), custom)
                self.assertIsInstance(check_custom(chart, ins, listed), tuple)
                self.assertEqual(shares_by(chart, list(ins), listed), shares)
                for name, _ in chart.wires:
                    self.assertEqual(worth_shares(chart, list(ins), listed, name), slow_worths(chart, ins, shares, name))

    def test_bad_customs(self):
        chart = example()
        things = ODD_THINGS + [("own",), ("own", 2), ("own", -1), ("own", True), ("own", None), ("own", 0, 0), ["own", "0"],
                               ("seldom", None), ("single", 0), ("slip",), ("slip", ZERO), ("slip", (3, 2)), ("slip", [1, 2]),
                               ("slip", None), ("slip", (2, 4)), ("told",), ("told", None), ("told", [ONE]),
                               ("told", [ONE, ZERO, 0]), ("told", [ONE, ONE, ONE]), ("told", [ONE, (-1, 1), ONE]),
                               ("slipped", HALF), ("single ",), (None,), ([],), ("seldom", "seldom"), "seldom", {"seldom": 1},
                               ("story",), ([], 0), ("own", (0,))]
        for thing in things:
            for function in (check_custom, shares_by, lambda c, i, t: worth_shares(c, i, t, None)):
                with self.assertRaises(BadCustom) as caught:
                    function(chart, (), thing)
                self.assertIs(caught.exception.custom, thing)
        self.assertEqual(check_custom(chart, (), ("own", 1)), ("own", 1))

    def test_rings_at_these_ins(self):
        chart = Chart([X, B], [Box(0, [X, B], [B], [(0,), (0,), (0,), (1,)])], [])
        self.assertEqual(check_custom(chart, (1,), ["own", 1]), ("own", 1))
        with self.assertRaises(BadCustom):
            check_custom(chart, (0,), ["own", 1])

    def test_refusals_in_order(self):
        chart = Chart([X, A], [Box(0, [X, A], [A], [(0,), (2,), (2,)] * 2)], [])
        for function in (check_custom, shares_by, lambda c, i, t: worth_shares(c, i, t, 0)):
            for ins, index in [(None, 0), ((), 0), ((2,), 0), ((0, 0), 1)]:
                with self.assertRaises(BadIns) as caught:
                    function(chart, ins, 0)
                self.assertEqual(caught.exception.index, index)
        with self.assertRaises(BadIns):
            customs_table(chart, (2,), 0)
        for name in ODD_THINGS + ["y"]:
            if name != "a":
                for function in (lambda n: worth_shares(chart, (0,), ("seldom",), n), lambda n: customs_table(chart, (0,), n),
                                 lambda n: story_not_sure(chart, n)):
                    with self.assertRaises(NoWire) as caught:
                        function(name)
                    self.assertIs(caught.exception.name, name)


class Table(unittest.TestCase):
    def test_each_field(self):
        wide = known_ones = 0
        charts = some(452, 40) + [(rng, chart, rng.choice(all_ins(chart))) for rng, chart in sure_charts(452, 40)]
        for _, chart, ins in charts:
            names = [name for name, _ in chart.wires]
            own = [own_shares(chart, ins, ring) for ring in rings_of(chart, ins)]
            known = slow_known(chart, ins)[1] if chart.is_sure else {}
            stories = slow_stories(chart, ins)
            for name, size in chart.wires:
                table = customs_table(chart, list(ins), name)
                self.assertEqual(table.stories, tuple(sorted({story[names.index(name)] for story in stories})))
                rows = [[fraction(share) for share in slow_worths(chart, ins, shares, name)] for shares in own]
                self.assertEqual(table.least, tuple(ratio(min(row[k] for row in rows)) for k in range(size)))
                self.assertEqual(table.greatest, tuple(ratio(max(row[k] for row in rows)) for k in range(size)))
                self.assertEqual(table.by_seldom, slow_worths(chart, ins, seldom(chart, ins), name))
                self.assertEqual(table.by_single, slow_worths(chart, ins, single(chart, ins), name))
                self.assertEqual(table.known, known.get(name))
                wide += table.least != table.greatest
                known_ones += table.known is not None and name not in chart.ins
                sure = sure_everywhere(chart, ins, name)
                self.assertEqual(ONE in table.least, isinstance(sure, Sure))
                if table.known is not None:
                    self.assertEqual(sure, Sure(table.known))
                if chart.is_sure and isinstance(sure, Sure) and table.stories:
                    self.assertEqual(table.stories, (sure.worth,))
        self.assertGreater(wide, 40)
        self.assertGreater(known_ones, 20)

    def test_story_not_sure(self):
        rng = random.Random(453)
        charts = [chart for _, chart, _ in ringed_charts(453, 40)]
        charts += [chart for chart in [random_chart(rng, chance=0.2) for _ in range(60)] if len(posts_of(chart)) < 13]
        found = 0
        for chart in charts:
            names = [name for name, _ in chart.wires]
            for name in names:
                expected = []
                for ins in all_ins(chart):
                    worths = {story[names.index(name)] for story in slow_stories(chart, ins)}
                    if len(worths) == 1 and not isinstance(sure_everywhere(chart, ins, name), Sure):
                        expected.append(ins)
                self.assertEqual(story_not_sure(chart, name), tuple(expected))
                found += len(expected)
        self.assertGreater(found, 10)

    def test_example(self):
        self.assertEqual(customs_table(example(), (), "a"),
                         Customs((0, 2), (ZERO, ZERO, ZERO), (ONE, ZERO, ONE), ((1, 3), ZERO, (2, 3)), ((1, 3), ZERO, (2, 3)), None))
        chart = Chart([X, A], [Box(0, [X], [A], [(0,), (2,)])], [])
        self.assertEqual(customs_table(chart, (1,), "a"), Customs((2,), *[(ZERO, ZERO, ONE)] * 4, 2))
        chance = chart.with_box(0, Box(0, [X], [A], [[((0,), HALF), ((1,), HALF)], (2,)]))
        self.assertEqual(customs_table(chance, (1,), "a"), Customs((2,), *[(ZERO, ZERO, ONE)] * 4, None))

    def test_result(self):
        thing = [0]
        row = [thing, 1, 2, 3, 4, 5]
        named = Customs(stories=thing, least=1, greatest=2, by_seldom=3, by_single=4, known=5)
        self.assertIs(named.stories, thing)
        for parts in product(*[[part, None] for part in row]):
            self.assertEqual(named == Customs(*parts), None not in parts)
            self.assertEqual(named != Customs(*parts), None in parts)
        self.assertTrue(named != tuple(row))


if __name__ == "__main__":
    unittest.main()
