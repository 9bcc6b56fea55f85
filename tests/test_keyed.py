import unittest
from itertools import combinations

from alreadytold.boxes import Box
from alreadytold.charts import Chart, all_ins
from alreadytold.errors import BadIns, BadNames, ChanceBox, NoKey
from alreadytold.keyed import fewest_keys, is_key, keyed_stories, sent_back
from alreadytold.stories import all_stories
from samples import ODD_THINGS, fillings, identity_box, slow_known, slow_stories, slow_worked, sure_charts

X, A, B, C = ("x", 2), ("a", 2), ("b", 3), ("c", 2)


def worded():
    """The example of part 6."""
    return Chart([X, A], [Box(0, [X, A], [A], [(0,), (0,), (0,), (1,)])], [])


def first_lacking(chart, ins, lot):
    """The first filling of the lot's letters, in the order of the letters, for which a letter is not known."""
    lot = [name for name in chart.letters if name in lot]
    for filling in fillings([dict(chart.wires)[name] for name in lot]):
        known = slow_known(chart, ins, list(zip(lot, filling)))[1]
        if not all(name in known for name in chart.letters):
            return filling
    return None


class Keys(unittest.TestCase):
    def test_every_lot(self):
        keys = others = between = 0
        for rng, chart in sure_charts(431, 60):
            ins = rng.choice(all_ins(chart))
            lots = [lot for many in range(len(chart.letters) + 1) for lot in combinations(chart.letters, many)]
            found = [lot for lot in lots if first_lacking(chart, ins, lot) is None]
            self.assertIn(chart.letters, found)
            fewest = [lot for lot in found if len(lot) == len(found[0])]
            self.assertEqual(fewest_keys(chart, list(ins)), tuple(fewest))
            between += 0 < len(fewest[0]) < len(chart.letters)
            for lot in lots:
                mixed = rng.sample(lot, len(lot))
                self.assertIs(is_key(chart, list(ins), mixed), lot in found)
                if lot in found:
                    keys += 1
                    self.check_key(chart, ins, lot, mixed)
                else:
                    others += 1
                    for function in (sent_back, keyed_stories):
                        with self.assertRaises(NoKey) as caught:
                            function(chart, ins, tuple(mixed))
                        self.assertEqual(caught.exception.filling, first_lacking(chart, ins, lot))
        self.assertGreater(keys, 60)
        self.assertGreater(others, 30)
        self.assertGreater(between, 5)

    def check_key(self, chart, ins, lot, mixed):
        rows = []
        for filling in fillings([dict(chart.wires)[name] for name in lot]):
            known = slow_known(chart, ins, list(zip(lot, filling)))[1]
            (_, sent, _), = slow_worked(chart, ins, tuple(known[name] for name in chart.letters))
            rows.append((filling, tuple(sent[chart.letters.index(name)] for name in lot)))
        self.assertEqual(sent_back(chart, list(ins), mixed), tuple(rows))
        stories = keyed_stories(chart, list(ins), mixed)
        self.assertEqual(sorted(stories), sorted(slow_stories(chart, ins)))
        names = [name for name, _ in chart.wires]
        order = [tuple(story[names.index(name)] for name in lot) for story in stories]
        self.assertEqual(order, sorted(set(order)))
        self.assertEqual(order, [filling for filling, sent in rows if filling == sent])

    def test_example(self):
        chart = worded()
        self.assertEqual(fewest_keys(chart, (1,)), (("a",),))
        self.assertEqual(sent_back(chart, (1,), ["a"]), (((0,), (0,)), ((1,), (1,))))
        self.assertEqual(keyed_stories(chart, (1,), ("a",)), ((1, 0), (1, 1)))
        self.assertEqual(fewest_keys(chart, (0,)), ((),))
        self.assertEqual(sent_back(chart, (0,), ()), (((), ()),))
        self.assertEqual(keyed_stories(chart, (0,), []), ((0, 0),))

    def test_a_lot_that_holds_a_key_need_not_be_one(self):
        # c is made of a and hides a where it is 0, b hangs on a unless c is told.
        found = False
        for _, chart in sure_charts(432, 300):
            for ins in all_ins(chart)[:2]:
                lots = [lot for many in range(len(chart.letters) + 1) for lot in combinations(chart.letters, many)]
                keys = [lot for lot in lots if is_key(chart, ins, lot)]
                found = found or any(set(key) < set(lot) for key in keys for lot in lots if lot not in keys)
        self.assertTrue(found)

    def test_many_stories(self):
        wires = [(name, 2) for name in "abcdef"]
        chart = Chart(wires, [identity_box(wire) for wire in wires], [])
        self.assertEqual(fewest_keys(chart, ()), (tuple("abcdef"),))
        self.assertEqual(keyed_stories(chart, (), "abcdef"[::-1] and list("fedcba")), tuple(all_stories(chart, ())))

    def test_refusals_in_order(self):
        chance = Chart([X, A], [Box(0, [X, A], [A], [[((0,), (1, 2)), ((1,), (1, 2))]] * 4)], [])
        for function in (is_key, sent_back, keyed_stories, lambda c, i, l: fewest_keys(c, i)):
            with self.assertRaises(ChanceBox) as caught:
                function(chance, 0, 0)
            self.assertEqual(caught.exception.index, 0)
            for ins, index in [(None, 0), ((None,), 0), ((2,), 0), ((0, 0), 1)]:
                with self.assertRaises(BadIns) as caught:
                    function(worded(), ins, 0)
                self.assertEqual(caught.exception.index, index)
        chart = Chart([X, A, B, C], [identity_box(A), identity_box(B), Box(1, [A], [C], [(0,), (1,)])], [])
        rows = [(0, thing) for thing in ODD_THINGS if not isinstance(thing, (list, tuple))]
        rows += [(0, ["x"]), (0, ["c", 0]), (1, ["b", "b"]), (2, ["b", "a", "a", 0]), (1, ("a", None)), (0, [["a"]])]
        for index, lot in rows:
            for function in (is_key, sent_back, keyed_stories):
                with self.assertRaises(BadNames) as caught:
                    function(chart, (0,), lot)
                self.assertEqual(caught.exception.index, index)


if __name__ == "__main__":
    unittest.main()
