import random
import unittest
from itertools import product

from alreadytold.boxes import Box
from alreadytold.charts import Chart
from alreadytold.drawing import all_in
from alreadytold.errors import BadSurrounding, OtherWires
from alreadytold.surroundings import (Parted, charts_alike, check_surrounding, counts_around, number_around,
                                      parting_chart, parting_fault)
from samples import fillings, identity_box, named, random_box, random_chart, random_entry, slow_lets

X, Y, A, B, C, D = ("x", 2), ("y", 2), ("a", 2), ("b", 3), ("c", 2), ("d", 2)


def slow_around(chart, around):
    """[3.5] by going through all worths of all wires of both."""
    outer = chart.ins + chart.outs
    others = [wire for wire in around.wires if wire[0] not in outer]
    made = [name for box in around.boxes for name, _ in box.makes]
    kept = [name for name in chart.ins if name not in made]
    own = [name for name in around.ins if name not in outer]
    table = {}
    for row in fillings([size for _, size in chart.wires]):
        if not all(slow_lets(chart, box, row) for box in chart.boxes):
            continue
        inner = dict(zip([name for name, _ in chart.wires], row))
        for other in fillings([size for _, size in others]):
            worths = {name: worth for name, worth in inner.items() if name in outer}
            worths.update(zip([name for name, _ in others], other))
            filling = tuple(worths[name] for name, _ in around.wires)
            if all(slow_lets(around, box, filling) for box in around.boxes):
                key = (tuple(worths[name] for name in kept + own), tuple(worths[name] for name in around.outs))
                table[key] = table.get(key, 0) + 1
    ins = named(chart, kept) + named(around, own)
    return ins, named(around, around.outs), tuple((told, sent, table[told, sent]) for told, sent in sorted(table))


def random_around(rng, chart):
    """A surrounding that may share ins, outs, both or nothing, and may use names of inner wires."""
    while True:
        wires = []
        for name, size in chart.wires:
            if rng.random() < 0.6:
                shared = name in chart.ins + chart.outs
                wires.append((name, size if shared else rng.choice([2, 3])))
        wires += [(name, 2) for name in rng.sample("pqrs", rng.randint(0, 2))]
        rng.shuffle(wires)
        free = [wire for wire in wires if wire[0] in chart.ins or wire[0] not in chart.outs]
        made = rng.sample(free, rng.randint(0, min(3, len(free))))
        boxes = []
        while made:
            boxes.append(random_box(rng, wires, made[:2], 2, 0.4))
            made = made[2:]
        outs = [name for name, _ in rng.sample(wires, rng.randint(0, min(3, len(wires))))]
        try:
            return check_surrounding(chart, Chart(wires, boxes, outs))
        except BadSurrounding:
            raise
        except ValueError:
            continue


class Around(unittest.TestCase):
    def test_against_all_worths(self):
        rng = random.Random(311)
        seen = set()
        for _ in range(150):
            chart = random_chart(rng, chance=0.3, wires=4)
            around = random_around(rng, chart)
            counts = counts_around(chart, around)
            ins, outs, rows = slow_around(chart, around)
            self.assertEqual((counts.ins, counts.letters, counts.outs, counts.rows), (ins, (), outs, rows))
            self.assertEqual(number_around(chart, around), sum(number for _, _, number in rows))
            names = [name for name, _ in around.wires]
            seen.add((any(name in chart.ins for name in names), any(name in chart.outs for name in names),
                      any(name not in chart.ins + chart.outs and name in [n for n, _ in chart.wires] for name in names)))
        self.assertEqual(len(seen), 8)

    def test_in_and_out_at_once(self):
        chart = Chart([X, A], [Box(0, [X], [A], [(1,), (0,)])], ["x", "a"])
        around = Chart([X, A], [Box(0, [A], [X], [(0,), (1,)])], ["x"])
        self.assertIs(check_surrounding(chart, around), around)
        self.assertEqual(counts_around(chart, around).rows, ())
        other = Chart([X, A], [Box(0, [A], [X], [(1,), (0,)])], ["a", "x"])
        self.assertEqual(counts_around(chart, other).rows, (((), (0, 1), 1), ((), (1, 0), 1)))
        self.assertEqual(number_around(chart, other), 2)

    def test_nothing_shared(self):
        chart = Chart([X, A], [Box(0, [X], [A], [(1,), (0,)])], ["a"])
        around = Chart([("p", 2), ("q", 3)], [Box(0, [], [("q", 3)], [[((1,), (1, 2)), ((2,), (1, 2))]])], ["q"])
        counts = counts_around(chart, around)
        self.assertEqual(counts.ins, (X, ("p", 2)))
        self.assertEqual(counts.rows, tuple((told, sent, 1) for told in fillings([2, 2]) for sent in [(1,), (2,)]))

    def test_inner_names_are_other_wires(self):
        # The inner wire a of the chart has nothing to do with the wire a of the surrounding.
        chart = Chart([X, A, C], [Box(0, [X], [A], [(1,), (0,)]), Box(1, [A], [C], [(0,), (1,)])], ["c"])
        around = Chart([("a", 4), C], [Box(0, [C], [("a", 4)], [(3,), (2,)])], ["a"])
        self.assertEqual(counts_around(chart, around).rows, (((0,), (2,), 1), ((1,), (3,), 1)))

    def test_hangs_on_all_in_alone(self):
        rng = random.Random(312)
        for _ in range(15):
            chart = random_chart(rng, chance=0.3, wires=4)
            later = chart
            for index in range(len(chart.boxes)):
                try:
                    later = later.with_day(index, rng.randint(0, 3))
                except ValueError:
                    pass
            self.assertEqual(all_in(chart), all_in(later))
            around = random_around(rng, chart)
            self.assertEqual(counts_around(chart, around), counts_around(later, around))


class Checked(unittest.TestCase):
    def refuse(self, chart, around, name, what):
        for function in (check_surrounding, counts_around, number_around):
            with self.assertRaises(BadSurrounding) as caught:
                function(chart, around)
            self.assertEqual((caught.exception.name, caught.exception.what), (name, what))

    def test_words(self):
        chart = Chart([X, Y, A, B, C], [Box(0, [X, Y], [A, B, C], [(0, 0, 0)] * 4)], ["a", "b", "x"])
        box = identity_box(D)
        self.refuse(chart, Chart([("x", 3), D], [box], []), "x", "size")
        self.refuse(chart, Chart([D, ("b", 2)], [box], []), "b", "size")
        self.refuse(chart, Chart([A, D], [identity_box(A)], []), "a", "made")
        # The first wire in order counts; of one wire the size comes first.
        self.refuse(chart, Chart([A, ("x", 3)], [identity_box(A)], []), "a", "made")
        self.refuse(chart, Chart([("x", 3), A], [identity_box(A)], []), "x", "size")
        self.refuse(chart, Chart([("a", 3)], [identity_box(("a", 3))], []), "a", "size")
        # An inner wire may have any size and maker, and an in may be made, even one that is an out.
        around = Chart([("c", 4), X, Y], [identity_box(("c", 4)), Box(0, [X], [X, Y], [(0, 1), (1, 0)])], [])
        self.assertIs(check_surrounding(chart, around), around)


class Parting(unittest.TestCase):
    def change(self, rng, chart):
        """The chart with one other entry."""
        index = rng.randrange(len(chart.boxes))
        box = chart.boxes[index]
        filling = rng.choice(fillings(box.take_sizes))
        return chart.with_box(index, box.with_entry(filling, random_entry(rng, box.make_sizes, 0.3)))

    def first_unlike(self, one, other):
        for ins, outs in sorted({row[:2] for row in one.rows + other.rows}):
            if one.number_at(ins, outs) != other.number_at(ins, outs):
                return Parted(ins, outs, one.number_at(ins, outs), other.number_at(ins, outs))
        return None

    def test_random_charts(self):
        rng = random.Random(313)
        alike = parted = 0
        while alike < 25 or parted < 40:
            chart = random_chart(rng, chance=0.3, wires=4)
            try:
                other = self.change(rng, chart)
            except ValueError:
                continue
            expected = self.first_unlike(all_in(chart), all_in(other))
            self.assertEqual(charts_alike(chart, other), expected)
            around = parting_chart(chart, other)
            if expected is None:
                alike += 1
                self.assertIsNone(around)
                for _ in range(3):
                    some = random_around(rng, chart)
                    self.assertEqual(counts_around(chart, some), counts_around(other, some))
                    self.assertEqual(parting_fault(chart, other, some), "number")
            else:
                parted += 1
                self.assertIsNone(parting_fault(chart, other, around))
                self.assertNotEqual(slow_number(chart, around), slow_number(other, around))

    def test_one_story_alone(self):
        for ins in ([], [X], [X, Y]):
            for outs in ([], [A], [A, B]):
                takes, makes = ins + [D], outs + [D]
                sizes = [size for _, size in makes]
                zero = tuple([0] * len(makes))
                entries = [zero for _ in fillings([size for _, size in takes])]
                chart = Chart(ins + outs + [D], [Box(0, takes, makes, entries)], [name for name, _ in outs])
                other = chart.with_box(0, Box(0, takes, makes, entries[:-1] + [tuple(size - 1 for size in sizes)]))
                at = tuple(1 for _ in ins)
                self.assertEqual(charts_alike(chart, other),
                                 Parted(at, tuple(size - 1 for _, size in outs), 0, 1) if outs else Parted(at, (), 1, 2))
                self.assertIsNone(parting_fault(chart, other, parting_chart(chart, other)))

    def test_outs_that_are_ins(self):
        # D is kept for both charts, so x = 1 has two stories in one and one in the other.
        chart = Chart([X, D], [Box(0, [X, D], [D], [(0,), (1,), (0,), (1,)])], ["x"])
        other = Chart([X, D], [Box(0, [X, D], [D], [(0,), (1,), (0,), (0,)])], ["x"])
        self.assertEqual(charts_alike(chart, other), Parted((1,), (1,), 2, 1))
        around = parting_chart(chart, other)
        self.assertEqual(parting_fault(chart, other, around), None)

    def test_greatest(self):
        wires = [(name, 2) for name in "abcdefghijkl"]
        ins, outs = wires[:6], wires[6:]
        letter = ("m", 2)
        entries = [(0, 0)] * 64 + [(0, 1)] * 63
        boxes = [Box(0, ins[:3] + [outs[0]], [wire, letter] if k == 1 else [wire], [((0,) * (2 if k == 1 else 1))] * 16)
                 for k, wire in list(enumerate(outs))[1:]]
        chart = Chart(wires + [letter], [Box(0, ins, [outs[0]], [(0,)] * 64)] + boxes, [name for name, _ in outs])
        other = chart.with_box(0, Box(0, ins, [outs[0]], [(0,)] * 63 + [(1,)]))
        self.assertEqual(len(entries), 127)
        self.assertEqual(charts_alike(chart, other), Parted((1,) * 6, (0,) * 6, 1, 0))
        self.assertIsNone(parting_fault(chart, other, parting_chart(chart, other)))

    def test_faults(self):
        chart = Chart([X, A], [Box(0, [X], [A], [(0,), (1,)])], ["a"])
        other = Chart([X, A], [Box(0, [X], [A], [(0,), (0,)])], ["a"])
        self.assertEqual(parting_fault(chart, other, Chart([("a", 3), D], [identity_box(D)], [])), "surrounding")
        self.assertEqual(parting_fault(chart, other, Chart([A], [identity_box(A)], [])), "surrounding")
        self.assertEqual(parting_fault(chart, other, Chart([D], [identity_box(D)], [])), "number")
        around = Chart([X, A, D], [Box(0, [], [X], [(1,)]), Box(1, [A, D], [D], [(0,), (1,), (0,), (0,)])], [])
        self.assertIsNone(parting_fault(chart, other, around))
        self.assertEqual(parting_fault(chart, chart, around), "number")
        # Neither is None a surrounding, but for alike charts.
        self.assertEqual(parting_fault(chart, other, None), "surrounding")
        self.assertIsNone(parting_fault(chart, chart, None))

    def test_other_wires(self):
        chart = Chart([X, A, C], [Box(0, [X], [A, C], [(0, 0), (1, 1)])], ["a", "c"])
        rows = [("ins", Chart([Y, A, C], [Box(0, [Y], [A, C], [(0, 0), (1, 1)])], [])),
                ("ins", Chart([X, Y, A, C], [Box(0, [X], [A, C], [(0, 0), (1, 1)])], ["a", "c"])),
                ("outs", chart.with_outs(["c", "a"])), ("outs", chart.with_outs(["a"])),
                ("outs", Chart([X, A, ("c", 3)], [Box(0, [X], [A, ("c", 3)], [(0, 0), (1, 1)])], ["a", "c"]))]
        for what, other in rows:
            for function in (charts_alike, parting_chart):
                with self.assertRaises(OtherWires) as caught:
                    function(chart, other)
                self.assertEqual(caught.exception.what, what)

    def test_result(self):
        thing = [1]
        parted = Parted(ins=thing, outs=2, many=3, others=4)
        self.assertIs(parted.ins, thing)
        self.assertTrue(parted == Parted([1], 2, 3, 4))
        self.assertFalse(parted != Parted([1], 2, 3, 4))
        for row in product([[1], 0], [2, 0], [3, 0], [4, 0]):
            self.assertEqual(parted == Parted(*row), list(row) == [[1], 2, 3, 4])
        self.assertTrue(parted != ([1], 2, 3, 4))


def slow_number(chart, around):
    return sum(row[2] for row in slow_around(chart, around)[2])


if __name__ == "__main__":
    unittest.main()
