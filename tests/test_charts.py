import random
import unittest

from alreadytold.boxes import Box
from alreadytold.charts import (Chart, all_ins, check_ins, check_post, check_sure, check_wire, maker_of, place_of,
                                posts_of)
from alreadytold.errors import BadBox, BadChart, BadIns, BadPost, ChanceBox, NoSuchBox, NoWire
from samples import ODD_THINGS, fillings, random_chart, slow_letters

X = ("x", 2)
A = ("a", 2)
B = ("b", 3)
HALF = (1, 2)
WIRES = [X, A, B]


def copier(day, takes, makes):
    """A sure box that makes 0 of all that it makes."""
    many = len(fillings([size for _, size in takes]))
    return Box(day, takes, makes, [[0] * len(makes)] * many)


def chance(makes, many, takes=()):
    """A box each of whose entries has so many rows."""
    rows = fillings([size for _, size in makes])[:many]
    entry = [(row, (1, many)) for row in rows]
    return Box(0, takes, makes, [entry] * len(fillings([size for _, size in takes])))


class Refusals(unittest.TestCase):
    def refuse(self, index, what, *things):
        with self.assertRaises(BadChart) as caught:
            Chart(*things)
        self.assertEqual((caught.exception.index, caught.exception.what), (index, what))

    def test_wires(self):
        for wires in [None, [], (), "a", {}, [(name, 2) for name in "abcdefghijklmnopq"]]:
            self.refuse(0, "wires", wires, None, None)

    def test_wire(self):
        for thing in ODD_THINGS:
            if thing not in (("a", 2), ["a", 2]):
                self.refuse(1, "wire", [X, thing], [], None)
        self.refuse(2, "wire", [X, A, ("x", 3), None], [], None)
        self.refuse(15, "wire", [(name, 2) for name in "abcdefghijklmno"] + [("a", 2)], [], None)

    def test_boxes(self):
        for boxes in [None, [], (), {}, "a", copier(0, [], [A]), [copier(0, [], [A])] * 7]:
            self.refuse(0, "boxes", WIRES, boxes, None)

    def test_box(self):
        for thing in ODD_THINGS:
            self.refuse(1, "box", WIRES, [copier(0, [], [A]), thing], None)

    def test_name(self):
        self.refuse(0, "name", WIRES, [copier(0, [("q", 2)], [A])], None)
        self.refuse(0, "name", WIRES, [copier(0, [("x", 3)], [A])], None)
        self.refuse(1, "name", WIRES, [copier(0, [], [A]), copier(0, [], [("b", 2)])], None)
        self.refuse(1, "name", WIRES, [copier(0, [], [A]), copier(0, [("q", 2)], [A]), None], None)

    def test_twice(self):
        self.refuse(1, "twice", WIRES, [copier(0, [], [A]), copier(1, [], [B, A]), None], None)
        box = copier(0, [], [A])
        self.refuse(1, "twice", WIRES, [box, box], ["q"])

    def test_outs(self):
        boxes = [copier(0, [], [A])]
        for outs in [None, "a", {}, ["a"] * 7]:
            self.refuse(0, "outs", WIRES, boxes, outs)

    def test_out(self):
        boxes = [copier(0, [], [A])]
        for thing in ODD_THINGS:
            if thing != "a":
                self.refuse(1, "out", WIRES, boxes, ["x", thing])
        self.refuse(2, "out", WIRES, boxes, ["x", "a", "x", "q"])
        self.refuse(1, "out", WIRES, boxes, ["x", X])

    def test_post(self):
        seven = [(name, 2) for name in "abcdefg"]
        boxes = [copier(0, seven[:6], seven[:6]), copier(0, seven[6:], seven[6:])]
        self.refuse(0, "post", seven, boxes, [])
        self.assertEqual(len(posts_of(Chart(seven, [boxes[0], copier(0, [], seven[6:])], []))), 64)
        threes = [(name, 4) for name in "abc"]
        self.assertEqual(len(posts_of(Chart(threes, [copier(0, threes, threes)], []))), 64)

    def test_ins(self):
        seven = [(name, 2) for name in "abcdefg"]
        self.refuse(0, "ins", seven + [X], [copier(0, [], [X])], [])
        self.assertEqual(len(all_ins(Chart(seven[:6] + [X], [copier(0, [], [X])], []))), 64)

    def test_shown(self):
        four = [(name, 4) for name in "abcd"]
        boxes = [copier(0, [], four)]
        self.refuse(0, "shown", four, boxes, list("abcd"))
        self.assertEqual(Chart(four, boxes, list("cab")).outs, ("c", "a", "b"))

    def test_rows(self):
        pairs = [(name, 4) for name in "abcdef"]
        boxes = [chance(pairs[:2], 8), chance(pairs[2:4], 8)]
        self.assertEqual(len(Chart(pairs, boxes, []).boxes), 2)
        self.refuse(0, "rows", pairs[:5], boxes + [chance(pairs[4:5], 2)], [])
        # The greatest number of rows of one entry counts, wherever it stands.
        uneven = Box(0, [("x", 2)], pairs[4:5], [(0,), [((0,), HALF), ((1,), HALF)]])
        self.refuse(0, "rows", pairs[:5] + [X], boxes + [uneven], [])

    def test_two_faults_at_once(self):
        wires = [(name, 4) for name in "abcdefgh"]
        makes = wires[:4]
        self.refuse(0, "post", wires, [Box(0, makes, makes, [[0] * 4] * 256)], list("abcd"))
        self.refuse(0, "ins", wires, [copier(0, [], makes)], list("abcd"))
        self.refuse(0, "out", wires, [Box(0, makes, makes, [[0] * 4] * 256)], ["q"])


class Charts(unittest.TestCase):
    def test_attributes(self):
        for kind in (list, tuple):
            box = copier(0, [X, A], [A])
            chart = Chart(kind([kind(X), kind(A), kind(B)]), kind([box]), kind(["b", "a"]))
            self.assertEqual(chart.wires, (X, A, B))
            self.assertEqual(chart.boxes, (box,))
            self.assertEqual(chart.outs, ("b", "a"))
            self.assertEqual(chart.ins, ("x", "b"))
            self.assertEqual(chart.letters, ("a",))
            self.assertEqual(chart.in_sizes, (2, 3))
            self.assertEqual(chart.letter_sizes, (2,))
            self.assertIs(chart.is_sure, True)
        self.assertIs(Chart(WIRES, [copier(0, [], [A]), chance([B], 2)], []).is_sure, False)

    def test_what_is_changed_later(self):
        wires, boxes, outs = [list(X), A, B], [copier(0, [], [A])], ["a"]
        chart = Chart(wires, boxes, outs)
        wires[0][0] = "q"
        wires.clear()
        boxes.clear()
        outs.append("x")
        self.assertEqual(chart, Chart(WIRES, [copier(0, [], [A])], ["a"]))

    def test_six_boxes_and_six_outs(self):
        six = [(name, 2) for name in "abcdef"]
        chart = Chart(six, [copier(0, [], [wire]) for wire in six], list("fedcba"))
        self.assertEqual((len(chart.boxes), chart.outs), (6, tuple("fedcba")))

    def test_letters_by_days(self):
        maker = copier(3, [], [A])
        for day, letters in [(2, ("a",)), (3, ("a",)), (4, ())]:
            chart = Chart(WIRES, [maker, copier(day, [A], [B])], [])
            self.assertEqual(chart.letters, letters)
            self.assertEqual(chart.ins, ("x",))
        chart = Chart(WIRES, [maker, copier(4, [A], [B]), copier(0, [A], [X])], [])
        self.assertEqual(chart.letters, ("a",))

    def test_own_taker_and_untaken(self):
        self.assertEqual(Chart([A], [copier(0, [A], [A])], []).letters, ("a",))
        chart = Chart([A], [copier(0, [], [A])], [])
        self.assertEqual((chart.ins, chart.letters), ((), ()))
        self.assertEqual(posts_of(chart), ((),))
        self.assertEqual(all_ins(chart), ((),))

    def test_letters_against_the_words(self):
        rng = random.Random(5)
        for _ in range(200):
            chart = random_chart(rng, days=3)
            self.assertEqual(chart.letters, slow_letters(chart))
            made = [name for box in chart.boxes for name, _ in box.makes]
            self.assertEqual(chart.ins, tuple(name for name, _ in chart.wires if name not in made))
            sizes = dict(chart.wires)
            self.assertEqual(chart.in_sizes, tuple(sizes[name] for name in chart.ins))
            self.assertEqual(chart.letter_sizes, tuple(sizes[name] for name in chart.letters))
            self.assertEqual(posts_of(chart), tuple(fillings(chart.letter_sizes)))
            self.assertEqual(all_ins(chart), tuple(fillings(chart.in_sizes)))

    def test_equal(self):
        chart = Chart(WIRES, [copier(0, [X], [A])], ["a"])
        self.assertTrue(chart == Chart(tuple(WIRES), (copier(0, (X,), [A]),), ("a",)))
        self.assertFalse(chart != Chart(WIRES, [copier(0, [X], [A])], ["a"]))
        for other in [Chart(WIRES, [copier(1, [X], [A])], ["a"]), Chart(WIRES, [copier(0, [X], [A])], []),
                      Chart([X, B, A], [copier(0, [X], [A])], ["a"]), copier(0, [X], [A]), None]:
            self.assertFalse(chart == other)
            self.assertTrue(chart != other)

    def test_with_box(self):
        one, two = copier(0, [X], [A]), copier(1, [A], [B])
        chart = Chart(WIRES, [one, two], ["b"])
        other = chart.with_box(1, copier(0, [A], [B]))
        self.assertEqual(other, Chart(WIRES, [one, copier(0, [A], [B])], ["b"]))
        self.assertEqual(other.letters, ("a",))
        self.assertEqual(chart, Chart(WIRES, [one, two], ["b"]))
        later = Box(5, [X], [A], [(1,), (0,)])
        self.assertEqual(chart.with_box(0, later), Chart(WIRES, [later, two], ["b"]))
        for index in [-1, 2, True, None, "0"]:
            with self.assertRaises(NoSuchBox) as caught:
                chart.with_box(index, None)
            self.assertIs(caught.exception.index, index)
        for box, what in [(None, "box"), (copier(0, [], [("q", 2)]), "name"), (copier(0, [], [A]), "twice")]:
            with self.assertRaises(BadChart) as caught:
                chart.with_box(1, box)
            self.assertEqual((caught.exception.index, caught.exception.what), (1, what))

    def test_with_day(self):
        one, two = copier(0, [X], [A]), copier(1, [A], [B])
        chart = Chart(WIRES, [one, two], ["b"])
        self.assertEqual(chart.with_day(1, 0), Chart(WIRES, [one, copier(0, [A], [B])], ["b"]))
        self.assertEqual(chart.boxes[1].day, 1)
        self.assertEqual(chart.with_day(0, 9), Chart(WIRES, [copier(9, [X], [A]), two], ["b"]))
        for index in [-1, 2, False, None]:
            with self.assertRaises(NoSuchBox):
                chart.with_day(index, None)
        for day in [-1, 10, None, True]:
            with self.assertRaises(BadBox) as caught:
                chart.with_day(1, day)
            self.assertEqual((caught.exception.index, caught.exception.what), (0, "day"))
        four = [(name, 4) for name in "abcd"]
        chart = Chart(four, [copier(0, [], four), ], [])
        taker = Chart(four + [X], [copier(0, [], four), Box(1, four, [X], [[0]] * 256)], [])
        self.assertEqual(chart.letters, taker.letters)
        with self.assertRaises(BadChart) as caught:
            taker.with_day(1, 0)
        self.assertEqual((caught.exception.index, caught.exception.what), (0, "post"))

    def test_with_outs(self):
        chart = Chart(WIRES, [copier(0, [X], [A])], ["a"])
        self.assertEqual(chart.with_outs(["b", "x"]), Chart(WIRES, [copier(0, [X], [A])], ["b", "x"]))
        self.assertEqual(chart.outs, ("a",))
        for outs, index, what in [(None, 0, "outs"), (["a", "q"], 1, "out")]:
            with self.assertRaises(BadChart) as caught:
                chart.with_outs(outs)
            self.assertEqual((caught.exception.index, caught.exception.what), (index, what))


class Checks(unittest.TestCase):
    def setUp(self):
        self.chart = Chart([B, X, A, ("c", 2)], [copier(1, [X], [("c", 2)]), copier(0, [A, B], [A])], [])

    def test_places_and_makers(self):
        self.assertEqual([place_of(self.chart, name) for name in "bxac"], [0, 1, 2, 3])
        self.assertEqual([check_wire(self.chart, name) for name in "bxac"], list("bxac"))
        self.assertEqual([maker_of(self.chart, name) for name in "bxac"], [None, None, (1, 0), (0, 0)])
        chart = Chart([A, B, X], [copier(0, [], [X]), copier(0, [], [B, A])], [])
        self.assertEqual([maker_of(chart, name) for name in "abx"], [(1, 1), (1, 0), (0, 0)])
        for thing in ODD_THINGS:
            if thing != "a":
                for function in (place_of, check_wire, maker_of):
                    with self.assertRaises(NoWire) as caught:
                        function(self.chart, thing)
                    self.assertIs(caught.exception.name, thing)

    def wrong(self, function, kind, index, *things):
        with self.assertRaises(kind) as caught:
            function(self.chart, *things)
        self.assertEqual(caught.exception.index, index)

    def test_check_ins(self):
        self.assertEqual(check_ins(self.chart, [2, 1]), (2, 1))
        self.assertEqual(check_ins(self.chart, (0, 0), True), (0, 0))
        self.assertEqual(check_ins(self.chart, [None, 1], True), (None, 1))
        self.assertEqual(check_ins(self.chart, [None, None], unknown=True), (None, None))
        for unknown in (True, False):
            for thing in [None, "21", {}, 3, object()]:
                self.wrong(check_ins, BadIns, 0, thing, unknown)
            self.wrong(check_ins, BadIns, 0, [], unknown)
            self.wrong(check_ins, BadIns, 1, [2], unknown)
            self.wrong(check_ins, BadIns, 0, [3], unknown)
            self.wrong(check_ins, BadIns, 1, [0, -1], unknown)
            self.wrong(check_ins, BadIns, 1, [0, 2], unknown)
            self.wrong(check_ins, BadIns, 2, [0, 1, 0], unknown)
            self.wrong(check_ins, BadIns, 2, [0, 1, None, None], unknown)
            self.wrong(check_ins, BadIns, 0, [True, 1], unknown)
            self.wrong(check_ins, BadIns, 1, [0, "1", 5], unknown)
        self.wrong(check_ins, BadIns, 0, [None, 5])
        self.wrong(check_ins, BadIns, 1, [None, 5], True)
        self.wrong(check_ins, BadIns, 1, [0, None], False)

    def test_check_post(self):
        self.assertEqual(check_post(self.chart, [1]), (1,))
        for index, thing in [(0, None), (0, []), (0, [2]), (0, [None]), (1, [0, 0]), (0, [False]), (0, "0")]:
            self.wrong(check_post, BadPost, index, thing)

    def test_check_sure(self):
        self.assertIsNone(check_sure(self.chart))
        chart = Chart([A, B, X], [copier(0, [], [A]), chance([B], 3), chance([X], 2)], [])
        with self.assertRaises(ChanceBox) as caught:
            check_sure(chart)
        self.assertEqual(caught.exception.index, 1)


if __name__ == "__main__":
    unittest.main()
