import unittest
from itertools import islice
from math import comb, factorial

from alreadytold.boxes import Box
from alreadytold.charts import Chart, all_ins
from alreadytold.errors import BadIns, BadWish, ChanceBox, NotOneBox
from alreadytold.fewest import NoWay, changed_chart, changes_fault, fewest_number
from alreadytold.manyfewest import (Everywhere, all_fewest, count_everywhere, count_fewest, fewest_everywhere,
                                    granted_chart)
from alreadytold.sureouts import ring_worths, sure_outs
from alreadytold.rings import rings_of
from alreadytold.tellings import quarrels_of
from alreadytold.wishes import is_granted
from samples import identity_box, one_box_charts
from test_fewest import cheap, slow_fewest, worded
from test_wishes import some_wishes

X, A, B, C = ("x", 2), ("a", 2), ("b", 2), ("c", 3)


class All(unittest.TestCase):
    def test_against_all_changes(self):
        seen = {}
        for rng, chart, ins in one_box_charts(481, 250):
            for wish in some_wishes(rng, chart):
                if not cheap(chart, wish, ins):
                    continue
                expected = slow_fewest(chart, ins, wish)
                listed = [list(thing) if isinstance(thing, tuple) else thing for thing in wish]
                found = list(all_fewest(chart, list(ins), listed))
                self.assertEqual(len(found), len(set(found)))
                self.assertEqual(set(found), set(expected), (wish, chart.boxes[0].entries))
                self.assertEqual(count_fewest(chart, list(ins), listed), len(expected))
                number = len(expected[0]) if expected else None
                seen.setdefault(wish[0], set()).add((number, len(rings_of(chart, ins))))
        self.assertGreaterEqual(seen["outs"], {(None, 1), (0, 1), (1, 1), (2, 1), (1, 2), (2, 2), (3, 2), (1, 3)})
        self.assertGreaterEqual(seen["lot"], {(None, 1), (0, 1), (1, 1), (2, 1), (1, 2), (2, 2), (3, 2)})
        self.assertGreaterEqual(seen["still"], {(0, 1), (1, 1), (1, 2)})
        self.assertGreaterEqual(seen["one ring"], {(0, 1), (1, 2), (2, 3)})
        self.assertGreaterEqual(seen["story"], {(0, 1), (1, 1)})

    def test_all_maps_of_four_posts(self):
        # All ways in which two couples of posts, or one of them, can be rings.
        wire, other = ("a", 4), ("o", 2)
        for leads in [(1, 0, 3, 2), (3, 2, 1, 0), (1, 0, 0, 2), (1, 2, 0, 3), (1, 0, 2, 3), (2, 2, 3, 2), (0, 0, 1, 3)]:
            for shows in [(0, 0, 0, 0), (1, 0, 1, 0), (0, 1, 1, 1)]:
                chart = Chart([wire, other], [Box(0, [wire], [wire, other], list(zip(leads, shows)))], ["o", "a"])
                for wish in [("still",), ("one ring",), ("story",), ("outs", (1, None)), ("outs", (0, 3)),
                             ("lot", ((0,), (1,))), ("lot", ((2,), (3,))), ("lot", ((1,),))]:
                    expected = slow_fewest(chart, (), wish)
                    self.assertEqual(set(all_fewest(chart, (), wish)), set(expected), (leads, shows, wish))
                    self.assertEqual(count_fewest(chart, (), wish), len(expected))

    def test_the_count_is_that_of_the_list(self):
        large = 0
        for rng, chart, ins in one_box_charts(482, 120):
            for wish in some_wishes(rng, chart):
                count = count_fewest(chart, ins, wish)
                if count <= 20000:
                    found = list(all_fewest(chart, ins, wish))
                    self.assertEqual((len(found), len(set(found))), (count, count))
                    large += count > 500
                    number = fewest_number(chart, ins, wish)
                    for changes in found[:3]:
                        self.assertEqual(len(changes), number)
                        self.assertIsNone(changes_fault(chart, ins, wish, changes))
                        self.assertTrue(is_granted(changed_chart(chart, ins, changes), ins, wish))
        self.assertGreater(large, 10)

    def test_example(self):
        chart = worded()
        self.assertEqual(rings_of(chart, (0,)), (((0,),),))
        self.assertEqual(sure_outs(chart, (0,)), (0,))
        self.assertEqual(rings_of(chart, (1,)), (((0,), (1,)),))
        self.assertEqual(quarrels_of(chart), ((1,),))
        self.assertEqual(ring_worths(chart, (1,), "b"), ((0, 1),))
        self.assertEqual(fewest_number(chart, (1,), ("still",)), 1)
        self.assertEqual(count_fewest(chart, (1,), ("still",)), 4)
        self.assertEqual(set(all_fewest(chart, (1,), ("still",))),
                         {(((0,), (0, 0)),), (((0,), (0, 1)),), (((1,), (1, 0)),), (((1,), (1, 1)),)})
        self.assertEqual(count_everywhere(chart, ("still",)), 4)
        self.assertEqual(list(all_fewest(chart, (0,), ("still",))), [()])

    def test_refusals_in_order(self):
        chance = Chart([X, A, B], [identity_box(A), Box(0, [A], [B], [[((0,), (1, 2)), ((1,), (1, 2))]] * 2)], [])
        two = Chart([X, A, B], [identity_box(A), identity_box(B)], [])
        lacking = Chart([X, A, B], [Box(0, [A], [A, B], [(0, 0), (0, 0)])], [])

        def listing(chart, ins, wish):
            return list(all_fewest(chart, ins, wish))

        def everywhere(chart, ins, wish):
            return count_everywhere(chart, wish)
        for function in (listing, count_fewest, everywhere):
            with self.assertRaises(ChanceBox) as caught:
                function(chance, None, None)
            self.assertEqual(caught.exception.index, 1)
        for function in (listing, count_fewest, everywhere, lambda c, i, w: fewest_everywhere(c, w),
                         lambda c, i, w: granted_chart(c, w)):
            for what, chart in [("boxes", two), ("ins", lacking)]:
                with self.assertRaises(NotOneBox) as caught:
                    function(chart, None, None)
                self.assertEqual(caught.exception.what, what)
            for wish, what in [(None, "wish"), (("outs", [2]), "outs"), (("lot", 0), "lot"), (("still", 0), "wish")]:
                with self.assertRaises(BadWish) as caught:
                    function(worded(), (1,), wish)
                self.assertEqual(caught.exception.what, what)
        for function in (listing, count_fewest):
            for ins, index in [(None, 0), ((), 0), ((2,), 0), ((0, 0), 1)]:
                with self.assertRaises(BadIns) as caught:
                    function(worded(), ins, None)
                self.assertEqual(caught.exception.index, index)
        with self.assertRaises(NotOneBox):
            fewest_everywhere(chance, None)


class Together(unittest.TestCase):
    def test_against_each_ins(self):
        none = some = 0
        for chance in (0.0, 0.4):
            for rng, chart, _ in one_box_charts(483, 80, chance=chance):
                for wish in some_wishes(rng, chart):
                    listed = [list(thing) if isinstance(thing, tuple) else thing for thing in wish]
                    numbers = [fewest_number(chart, ins, wish) for ins in all_ins(chart)]
                    found = fewest_everywhere(chart, listed)
                    other = granted_chart(chart, listed)
                    if None in numbers:
                        none += 1
                        self.assertEqual((found, other), (NoWay(), NoWay()))
                    else:
                        some += 1
                        self.assertEqual(found.number, sum(numbers))
                        self.assertEqual(tuple(row[0] for row in found.rows), all_ins(chart))
                        for ins, changes in found.rows:
                            self.assertIsNone(changes_fault(chart, ins, wish, changes))
                            self.assertTrue(is_granted(other, ins, wish))
                        self.assertEqual((other.wires, other.outs), (chart.wires, chart.outs))
                        entries = zip(chart.boxes[0].entries, other.boxes[0].entries)
                        self.assertEqual(sum(one != two for one, two in entries), sum(numbers))
                    if chart.is_sure:
                        count = 1
                        for ins in all_ins(chart):
                            count *= count_fewest(chart, ins, wish)
                        self.assertEqual(count_everywhere(chart, listed), count)
        self.assertGreater(none, 10)
        self.assertGreater(some, 100)

    def test_quarrels(self):
        for _, chart, _ in one_box_charts(484, 60):
            self.assertEqual(fewest_everywhere(chart, ("story",)).number, len(quarrels_of(chart)))
            self.assertEqual(quarrels_of(granted_chart(chart, ["story"])), ())

    def test_result(self):
        thing = [0]
        self.assertIs(Everywhere(thing, 1).number, thing)
        self.assertTrue(Everywhere(number=[0], rows=1) == Everywhere(thing, 1))
        for other in [Everywhere([0], 2), Everywhere(1, 1), ([0], 1), NoWay()]:
            self.assertTrue(Everywhere(thing, 1) != other)


class Great(unittest.TestCase):
    def test_64_posts(self):
        wires = [(name, 2) for name in "abcdef"]
        box = Box(0, wires, wires, [tuple(1 - bit for bit in divmod_bits(number)) for number in range(64)])
        chart = Chart(wires, [box], ["a"])
        self.assertEqual(len(rings_of(chart, ())), 32)
        self.assertEqual(fewest_number(chart, (), ("still",)), 32)
        self.assertEqual(count_fewest(chart, (), ("still",)), 2 ** 32 * 65 ** 31)
        self.assertEqual(count_fewest(chart, (), ("one ring",)), 32 * 2 ** 31 * 2 * 64 ** 30)
        self.assertEqual(count_fewest(chart, (), ("story",)), 64)
        lot = ("lot", [divmod_bits(number) for number in range(8)])
        for wish in [("still",), ("one ring",), ("story",), lot, ("outs", [0])]:
            number = fewest_number(chart, (), wish)
            for changes in islice(all_fewest(chart, (), wish), 5):
                self.assertEqual(len(changes), number)
                self.assertIsNone(changes_fault(chart, (), wish, changes))

    def test_12_bad_rings(self):
        # 12 rings of one post of which four fit, and all other posts lead to the first one.
        wires = [("a", 4), ("b", 4)]
        other = ("o", 2)
        entries = [(number // 4, number % 4, 1) if number < 12 else (0, 0, 0) for number in range(16)]
        chart = Chart(wires + [other], [Box(0, wires, wires + [other], entries)], ["o", "a"])
        wish = ("outs", [0, 2])
        self.assertEqual(fewest_number(chart, (), wish), 12)
        count = count_fewest(chart, (), wish)
        # The sum over the lots of these four rings that may come to lie on new rings; others have 16 goals each.
        expected = sum(comb(4, size) * factorial(size) * 2 ** (12 - size) * size * 16 ** (11 - size) for size in range(1, 5))
        self.assertEqual(count, expected)
        found = list(islice(all_fewest(chart, (), wish), 50))
        self.assertEqual(len(set(found)), 50)
        for changes in found[:5]:
            self.assertIsNone(changes_fault(chart, (), wish, changes))


def divmod_bits(number):
    return tuple((number >> bit) & 1 for bit in (5, 4, 3, 2, 1, 0))


if __name__ == "__main__":
    unittest.main()
