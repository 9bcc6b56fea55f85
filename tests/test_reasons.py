import random
import unittest
from itertools import combinations

from alreadytold.boxes import Box
from alreadytold.charts import Chart
from alreadytold.errors import BadIns, BadTold, ChanceBox, NotKnown, NoWire
from alreadytold.grounding import known_worths
from alreadytold.reasons import least_lots, reasons_fault, reasons_for, withheld_lots
from samples import ODD_THINGS, agreeing, fillings, identity_box, slow_known, some_ins, some_told, sure_charts

X, Y, A, B, C = ("x", 2), ("y", 2), ("a", 2), ("b", 3), ("c", 2)


def worded():
    """The example of part 6."""
    return Chart([X, A], [Box(0, [X, A], [A], [(0,), (0,), (0,), (1,)])], [])


def slow_reasons(chart, ins, name, told):
    """[6.5] word by word."""
    rounds, worths = slow_known(chart, ins, told)
    round_of = {wire: number for number, row in enumerate(rounds) for wire in row}
    lots = {}

    def explain(wire):
        if wire in lots:
            return
        if round_of[wire] == 0:
            lots[wire] = None
            return
        box, = [box for box in chart.boxes if wire in [make for make, _ in box.makes]]
        at = [make for make, _ in box.makes].index(wire)
        early = [take for take, _ in box.takes if round_of.get(take, 99) < round_of[wire]]
        for many in range(len(early) + 1):
            for lot in combinations(early, many):
                rows = agreeing(box, {take: worths[take] for take in lot})
                if {row[at] for _, row in rows} == {worths[wire]}:
                    lots[wire] = lot
                    for take in lot:
                        explain(take)
                    return
    explain(name)
    names = [wire for wire, _ in chart.wires]
    order = sorted(lots, key=lambda wire: (round_of[wire], names.index(wire)))
    return tuple((wire, worths[wire], lots[wire]) for wire in order)


class Reasons(unittest.TestCase):
    def test_against_the_words(self):
        deep = unknown = 0
        for rng, chart in sure_charts(381, 150):
            ins, told = some_ins(rng, chart), some_told(rng, chart, 0.7)
            known = slow_known(chart, ins, told)[1]
            for name, _ in chart.wires:
                if name in known:
                    rows = reasons_for(chart, list(ins), name, list(told))
                    self.assertEqual(rows, slow_reasons(chart, ins, name, told))
                    self.assertIsNone(reasons_fault(chart, ins, name, rows, told))
                    listed = [[row[0], row[1], row[2] and list(row[2])] for row in rows]
                    self.assertIsNone(reasons_fault(chart, list(ins), name, listed, list(told)))
                    deep += len(rows) > 2
                else:
                    unknown += 1
                    with self.assertRaises(NotKnown) as caught:
                        reasons_for(chart, ins, name, told)
                    self.assertEqual(caught.exception.name, name)
        self.assertGreater(deep, 20)
        self.assertGreater(unknown, 40)

    def test_example(self):
        self.assertEqual(reasons_for(worded(), (0,), "a"), (("x", 0, None), ("a", 0, ("x",))))
        self.assertEqual(reasons_for(worded(), (0,), "x"), (("x", 0, None),))
        self.assertEqual(reasons_for(worded(), (1,), "a", [("a", 1)]), (("a", 1, None),))

    def test_first_of_the_least_lots(self):
        # a is 1 if two of the three ins are; any two of them alone are enough.
        ins = [("p", 2), ("q", 2), ("r", 2)]
        box = Box(1, [ins[2], ins[0], ins[1]], [A], [(int(sum(row) > 1),) for row in fillings([2] * 3)])
        chart = Chart(ins + [A], [box], [])
        self.assertEqual(reasons_for(chart, (1, 1, 1), "a"), (("p", 1, None), ("r", 1, None), ("a", 1, ("r", "p"))))
        self.assertEqual(reasons_for(chart, (0, 1, 0), "a"), (("p", 0, None), ("r", 0, None), ("a", 0, ("r", "p"))))
        self.assertEqual(reasons_for(chart, (None, 1, 1), "a"), (("q", 1, None), ("r", 1, None), ("a", 1, ("r", "q"))))
        constant = Chart([X, C], [Box(0, [X, C], [C], [(1,)] * 4)], [])
        self.assertEqual(reasons_for(constant, (0,), "c"), (("c", 1, ()),))

    def test_refusals_in_order(self):
        chance = Chart([X, A], [Box(0, [X, A], [A], [[((0,), (1, 2)), ((1,), (1, 2))]] * 4)], [])
        for function in (lambda c, i, n, t: reasons_for(c, i, n, t), lambda c, i, n, t: reasons_fault(c, i, n, 0, t),
                         lambda c, i, n, t: least_lots(c, i, n), lambda c, i, n, t: withheld_lots(c, i, n)):
            with self.assertRaises(ChanceBox) as caught:
                function(chance, 0, 0, 0)
            self.assertEqual(caught.exception.index, 0)
            with self.assertRaises(BadIns):
                function(worded(), (2,), 0, 0)
            for name in ODD_THINGS + ["y"]:
                if name != "a":
                    with self.assertRaises(NoWire) as caught:
                        function(worded(), (None,), name, 0)
                    self.assertIs(caught.exception.name, name)
        for function in (reasons_for, lambda c, i, n, t: reasons_fault(c, i, n, 0, t)):
            with self.assertRaises(BadTold) as caught:
                function(worded(), (1,), "a", [("a", 1), ("x", 0)])
            self.assertEqual(caught.exception.index, 1)
        with self.assertRaises(NotKnown):
            reasons_for(worded(), (1,), "a")
        self.assertEqual(reasons_fault(worded(), (1,), "a", 0), "row")


class Fault(unittest.TestCase):
    def chart(self):
        boxes = [Box(0, [X, Y], [C], [(0,), (0,), (0,), (1,)]), Box(1, [C, A], [A, B], [(0, 1), (1, 1), (1, 2), (1, 2)])]
        return Chart([X, Y, C, A, B], boxes, [])

    def fault(self, rows, name="b", ins=(1, 1), told=()):
        return reasons_fault(self.chart(), ins, name, rows, told)

    def test_right_rows(self):
        rows = [("x", 1, None), ("y", 1, None), ("c", 1, ("y", "x")), ("a", 1, ["c"]), ["b", 2, ("a", "c")]]
        self.assertIsNone(self.fault(rows))
        self.assertIsNone(self.fault([("c", 0, ("x",)), ("b", 1, ("c",))][:0] + [("x", 0, None), ("c", 0, ("x",)),
                                                                             ("b", 1, ("c",))], ins=(0, None)))
        self.assertIsNone(self.fault([("a", 0, None)], name="a", told=[("a", 0)]))

    def test_row(self):
        good = [("x", 1, None), ("y", 1, None)]
        for rows in ODD_THINGS:
            if not isinstance(rows, (list, tuple)) or len(rows) == 0:
                self.assertEqual(self.fault(rows), "row")
        for row in ODD_THINGS + [("x", 1), ("x", 1, None, None), ("x", 2, None), ("x", True, None), ("p", 1, None), ("x", -1, None),
                                 (None, 1, None), ([], 1, None), ("x", None, None), ("c", 1, "xy"), ("c", 1, ("x", "x")),
                                 ("c", 1, ("x", "c")), ("c", 1, ("x", None)), ("c", 1, 0), ("x", 1, ("y",)),
                                 ("c", 1, ({},)), "xy1", {"x": 1}]:
            self.assertEqual(self.fault([row]), "row", row)
            self.assertEqual(self.fault([("c", 0, None), row]), "row", row)
        self.assertEqual(self.fault(good + [("x", 1, None)]), "row")
        self.assertEqual(self.fault(good + [("c", 0, ("b",)), ("c", 0, ())]), "row")

    def test_told(self):
        self.assertEqual(self.fault([("x", 0, None)]), "told")
        self.assertEqual(self.fault([("x", 1, ())]), "told")
        self.assertEqual(self.fault([("x", 1, None)], ins=(None, 1)), "told")
        self.assertEqual(self.fault([("x", 1, ())], ins=(None, 1)), "told")
        self.assertEqual(self.fault([("x", 0, [])], name="x", ins=(None, 1)), "told")
        self.assertEqual(self.fault([("c", 1, None)]), "told")
        self.assertEqual(self.fault([("a", 1, None)], told=[("a", 0)]), "told")
        self.assertEqual(self.fault([("a", 0, ("c",))], told=[("a", 0)]), "told")
        self.assertEqual(self.fault([("a", 0, None)]), "told")

    def test_each_word_of_all_rows_ahead_of_the_next(self):
        later, entry = ("b", 2, ("c",)), ("c", 0, ("x",))
        self.assertEqual(self.fault([later, ("x", 0, None)]), "told")
        self.assertEqual(self.fault([("x", 1, None), entry, later, ("y", 1, None), ("a", 1, ("b",))]), "row")
        self.assertEqual(self.fault([("x", 1, None), entry, ("a", 1, ("a",))]), "later")
        self.assertEqual(self.fault([("x", 1, None), entry, ("y", 0, None)]), "told")
        self.assertEqual(self.fault([("x", 1, None), entry]), "entry")
        self.assertEqual(self.fault([("x", 1, None), ("y", 1, None), ("c", 1, ("x",))]), "entry")
        self.assertEqual(self.fault([("x", 1, None), ("y", 1, None), ("c", 0, ("x", "y")), ("b", 1, ("c",))]), "entry")
        self.assertEqual(self.fault([("x", 1, None), ("y", 1, None), ("c", 1, ("x", "y"))]), "last")
        self.assertEqual(self.fault([("x", 1, None)]), "last")
        # The worths are those that the rows tell, not those that are known.
        self.assertEqual(self.fault([("a", 0, None), ("x", 0, None), ("c", 0, ("x",)), ("b", 1, ("c", "a"))],
                                    ins=(0, 1), told=[("a", 0)]), None)

    def test_a_wire_may_be_in_a_lot_of_its_own_row(self):
        self.assertEqual(self.fault([("a", 1, ("a",))], name="a"), "later")

    def test_rows_without_a_fault_make_known(self):
        rng = random.Random(382)
        right = 0
        for _, chart in sure_charts(383, 40):
            ins, told = some_ins(rng, chart), some_told(rng, chart, 0.5)
            known = known_worths(chart, ins, told)
            for place, (name, size) in enumerate(chart.wires):
                if known[place] is None:
                    continue
                rows = list(reasons_for(chart, ins, name, told))
                changed = [list(row) for row in rows]
                row = rng.choice(changed)
                row[rng.choice([1, 2])] = rng.choice([0, 1, None, (), tuple(row[2] or ())[1:]])
                if reasons_fault(chart, ins, name, changed, told) is None:
                    right += 1
                    self.assertEqual(changed[-1][:2], [name, known[place]])
        self.assertGreater(right, 5)


class Lots(unittest.TestCase):
    def least(self, lots):
        return [lot for lot in lots if not any(set(other) < set(lot) for other in lots)]

    def test_against_the_words(self):
        several = 0
        for rng, chart in sure_charts(384, 120):
            ins = some_ins(rng, chart)
            told = [name for name, worth in zip(chart.ins, ins) if worth is not None]
            lots = [lot for many in range(len(told) + 1) for lot in combinations(told, many)]

            def knows(name, lot):
                only = tuple(worth if other in lot else None for other, worth in zip(chart.ins, ins))
                return name in slow_known(chart, only)[1]
            for name, _ in chart.wires:
                enough = self.least([lot for lot in lots if knows(name, lot)])
                against = self.least([lot for lot in lots if not knows(name, [t for t in told if t not in lot])])
                self.assertEqual(least_lots(chart, list(ins), name), tuple(enough))
                self.assertEqual(withheld_lots(chart, list(ins), name), tuple(against))
                several += len(enough) > 1 or len(against) > 1
                # The lots to be withheld are exactly the least ones that meet each least lot, and the other way round.
                meet = self.least([lot for lot in lots if all(set(lot) & set(other) for other in enough)])
                self.assertEqual(tuple(meet), tuple(against))
                back = self.least([lot for lot in lots if all(set(lot) & set(other) for other in against)])
                self.assertEqual(tuple(back), tuple(enough))
        self.assertGreater(several, 5)

    def test_edges(self):
        chart = worded()
        self.assertEqual(least_lots(chart, (0,), "a"), (("x",),))
        self.assertEqual(withheld_lots(chart, (0,), "a"), (("x",),))
        self.assertEqual(least_lots(chart, (0,), "x"), (("x",),))
        self.assertEqual(least_lots(chart, (1,), "a"), ())
        self.assertEqual(withheld_lots(chart, (1,), "a"), ((),))
        self.assertEqual(withheld_lots(chart, (None,), "x"), ((),))
        constant = Chart([X, C], [Box(0, [X, C], [C], [(1,)] * 4)], [])
        self.assertEqual(least_lots(constant, (0,), "c"), ((),))
        self.assertEqual(withheld_lots(constant, (0,), "c"), ())

    def test_by_length_then_by_places(self):
        ins = [("p", 2), ("q", 2), ("r", 2), ("s", 2)]
        entries = [(int(row[3] or (row[0] and row[1]) or (row[1] and row[2])),) for row in fillings([2] * 4)]
        chart = Chart(ins + [A, C], [Box(0, ins, [A], entries), identity_box(C)], [])
        self.assertEqual(least_lots(chart, (1, 1, 1, 1), "a"), (("s",), ("p", "q"), ("q", "r")))
        self.assertEqual(withheld_lots(chart, (1, 1, 1, 1), "a"), (("q", "s"), ("p", "r", "s")))


if __name__ == "__main__":
    unittest.main()
