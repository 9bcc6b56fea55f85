import random
import unittest
from itertools import product

from alreadytold.boxes import Box
from alreadytold.charts import Chart, all_ins, posts_of
from alreadytold.customs import worth_shares
from alreadytold.errors import BadIns, NoWire
from alreadytold.rings import rings_of
from alreadytold.sureouts import Differ, is_untouched, ring_worths, sure_everywhere, sure_outs, unsure_ins
from alreadytold.tellings import Sure
from samples import ODD_THINGS, identity_box, random_chart, ringed_charts, slow_worked, small_charts

X, A, B, C = ("x", 2), ("a", 2), ("b", 2), ("c", 2)


def worded():
    """[7.10]"""
    entries = [(0, 0), (0, 0), (1, 0), (0, 1)]
    return Chart([X, A, B], [Box(0, [X, A], [A, B], entries)], ["b"])


def sightings(chart, ins, name):
    """[7.1]: all rows (number of a ring, post, worth) in their order."""
    place = [wire for wire, _ in chart.wires].index(name)
    rows = set()
    for number, ring in enumerate(rings_of(chart, ins)):
        for post in ring:
            rows |= {(number, post, filling[place]) for filling, _, _ in slow_worked(chart, ins, post)}
    return sorted(rows)


def some(seed, many):
    return list(small_charts(seed, many)) + list(ringed_charts(seed, many))


class Shown(unittest.TestCase):
    def test_against_the_words(self):
        sure = differ = 0
        for rng, chart, ins in some(441, 60):
            chart = chart.with_outs([name for name, _ in rng.sample(chart.wires, min(3, len(chart.wires)))])
            for name, _ in chart.wires:
                rows = sightings(chart, ins, name)
                worths = [tuple(sorted({row[2] for row in rows if row[0] == ring})) for ring in range(rows[-1][0] + 1)]
                self.assertEqual(ring_worths(chart, list(ins), name), tuple(worths))
                others = [row for row in rows if row[2] != rows[0][2]]
                expected = Differ(*rows[0], *others[0]) if others else Sure(rows[0][2])
                self.assertEqual(sure_everywhere(chart, list(ins), name), expected)
                sure += not others
                differ += bool(others)
                # The wire is sure exactly if it has the worth with share 1 by the own shares of all rings.
                ones = {worth_shares(chart, ins, ("own", ring), name).index((1, 1))
                        if (1, 1) in worth_shares(chart, ins, ("own", ring), name) else None
                        for ring in range(len(worths))}
                self.assertEqual(ones == {rows[0][2]}, not others)
            outs = []
            for name in chart.outs:
                worths = {row[2] for row in sightings(chart, ins, name)}
                outs.append(worths.pop() if len(worths) == 1 else None)
            self.assertEqual(sure_outs(chart, list(ins)), tuple(outs))
        self.assertGreater(sure, 60)
        self.assertGreater(differ, 60)

    def test_unsure_ins(self):
        found = 0
        rng = random.Random(442)
        charts = [chart for _, chart, _ in ringed_charts(442, 15)]
        charts += [chart for chart in [random_chart(rng, chance=0.2, wires=4) for _ in range(40)] if len(posts_of(chart)) < 13]
        for chart in charts:
            for name, _ in chart.wires:
                expected = tuple(ins for ins in all_ins(chart) if len({row[2] for row in sightings(chart, ins, name)}) > 1)
                self.assertEqual(unsure_ins(chart, name), expected)
                found += len(expected)
        self.assertGreater(found, 20)

    def test_example(self):
        chart = worded()
        self.assertEqual(ring_worths(chart, (0,), "b"), ((0,),))
        self.assertEqual(sure_everywhere(chart, (0,), "b"), Sure(0))
        self.assertEqual(sure_everywhere(chart, (1,), "b"), Differ(0, (0,), 0, 0, (1,), 1))
        self.assertEqual(sure_everywhere(chart, (1,), "x"), Sure(1))
        self.assertEqual(sure_outs(chart, (0,)), (0,))
        self.assertEqual(sure_outs(chart, (1,)), (None,))
        self.assertEqual(sure_outs(chart.with_outs([]), (1,)), ())
        self.assertEqual(unsure_ins(chart, "b"), ((1,),))
        # A letter shows the told worth, which a chance box may not send back at once.
        chance = Chart([A, B], [Box(0, [A], [A, B], [[((0, 0), (1, 2)), ((0, 1), (1, 2))], (0, 1)])], [])
        self.assertEqual(sure_everywhere(chance, (), "a"), Sure(0))
        self.assertEqual(sure_everywhere(chance, (), "b"), Differ(0, (0,), 0, 0, (0,), 1))

    def test_refusals_in_order(self):
        for function in (ring_worths, sure_everywhere, lambda c, i, n: sure_outs(c, i)):
            for ins, index in [(None, 0), ((), 0), ((2,), 0), ((0, 0), 1)]:
                with self.assertRaises(BadIns) as caught:
                    function(worded(), ins, None)
                self.assertEqual(caught.exception.index, index)
        for name in ODD_THINGS + ["c"]:
            if name != "a":
                for function in (lambda n: ring_worths(worded(), (0,), n), lambda n: sure_everywhere(worded(), (0,), n),
                                 lambda n: unsure_ins(worded(), n), lambda n: is_untouched(worded(), n)):
                    with self.assertRaises(NoWire) as caught:
                        function(name)
                    self.assertIs(caught.exception.name, name)

    def test_result(self):
        thing = [0]
        row = [thing, 1, 2, 3, 4, 5]
        self.assertIs(Differ(*row).ring, thing)
        named = Differ(ring=thing, post=1, worth=2, other_ring=3, other_post=4, other_worth=5)
        for parts in product(*[[part, None] for part in row]):
            self.assertEqual(named == Differ(*parts), None not in parts)
            self.assertEqual(named != Differ(*parts), None in parts)
        self.assertTrue(named != tuple(row))


class Untouched(unittest.TestCase):
    def slow(self, chart, name):
        makers = [box for box in chart.boxes if name in [make for make, _ in box.makes]]
        if not makers:
            return True
        return name not in chart.letters and all(self.slow(chart, take) for take, _ in makers[0].takes)

    def test_against_the_words(self):
        rng = random.Random(443)
        seen = set()
        for _ in range(150):
            chart = random_chart(rng, chance=0.3, wires=6, days=4)
            for name, _ in chart.wires:
                self.assertIs(is_untouched(chart, name), self.slow(chart, name))
                seen.add((self.slow(chart, name), name in chart.ins))
                if self.slow(chart, name) and len(posts_of(chart)) < 13:
                    place = [wire for wire, _ in chart.wires].index(name)
                    for ins in all_ins(chart)[:2]:
                        shares = []
                        for post in posts_of(chart):
                            table = {}
                            for filling, _, share in slow_worked(chart, ins, post):
                                table[filling[place]] = table.get(filling[place], 0) + share[0] / share[1]
                            shares.append({worth: round(share, 9) for worth, share in table.items()})
                        self.assertEqual([row for row in shares if row != shares[0]], [])
        self.assertEqual(len(seen), 3)

    def test_edges(self):
        boxes = [Box(0, [X], [A], [(0,), (1,)]), identity_box(B, 1), Box(2, [A], [C], [(1,), (0,)])]
        chart = Chart([X, A, B, C], boxes, [])
        self.assertEqual([is_untouched(chart, name) for name in "xabc"], [True, True, False, True])
        hidden = Chart([A, C], [identity_box(A), Box(1, [A], [C], [(0,), (0,)])], [])
        self.assertIs(is_untouched(hidden, "c"), False)
        self.assertIs(is_untouched(Chart([A], [Box(0, [], [A], [(0,)])], []), "a"), True)


if __name__ == "__main__":
    unittest.main()
