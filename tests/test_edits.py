import random
import unittest

from alreadytold.boxes import Box
from alreadytold.changes import check_edits, edited_chart
from alreadytold.charts import Chart
from alreadytold.errors import BadEdits
from samples import ODD_THINGS, fillings, identity_box, random_chart, random_entry

X, A, B, C = ("x", 2), ("a", 2), ("b", 3), ("c", 2)
HALVES = [((1,), (1, 2)), [[0], (1, 2)]]


def two_boxes():
    return Chart([X, A, B, C], [Box(0, [X, A], [A], [(0,), (1,), (1,), (0,)]), Box(1, [A, B], [B, C], [(0, 0)] * 6)], ["a"])


def random_edit(rng, chart):
    number = rng.randrange(len(chart.boxes))
    box = chart.boxes[number]
    word = rng.choice(["entry", "entry", "day", "take"])
    if word == "entry":
        return [word, number, rng.choice(fillings(box.take_sizes)), random_entry(rng, box.make_sizes, 0.3)]
    if word == "day":
        return (word, number, rng.randint(0, 4))
    if not box.takes:
        return (word, number, "a", "b")
    return (word, number, rng.choice(box.takes)[0], rng.choice(chart.wires)[0])


def slow_edited(chart, edit):
    """[10.3]: the chart with the edit, by the constructors, or None if it cannot be done."""
    word, number = edit[:2]
    box = chart.boxes[number]
    if word == "entry":
        entries = list(box.entries)
        entries[fillings(box.take_sizes).index(tuple(edit[2]))] = edit[3]
        new = (box.day, box.takes, box.makes, entries)
    elif word == "day":
        new = (edit[2], box.takes, box.makes, box.entries)
    else:
        takes = [(edit[3], size) if name == edit[2] else (name, size) for name, size in box.takes]
        if edit[2] not in dict(box.takes) or edit[3] in dict(box.takes) or not set(takes) <= set(chart.wires):
            return None
        new = (box.day, takes, box.makes, box.entries)
    try:
        boxes = list(chart.boxes)
        boxes[number] = Box(*new)
        return Chart(chart.wires, boxes, chart.outs)
    except ValueError:
        return None


class Edits(unittest.TestCase):
    def refuse(self, index, what, function, *things):
        with self.assertRaises(BadEdits) as caught:
            function(*things)
        self.assertEqual(vars(caught.exception), {"index": index, "what": what}, things)

    def refuse_edit(self, what, edit, chart=None):
        """The edit is refused alone, behind others, in a pool."""
        chart = chart or two_boxes()
        day = ("day", 0, chart.boxes[0].day)
        for function in (edited_chart, check_edits):
            self.refuse(0, what, function, chart, [edit, None])
            self.refuse(2, what, function, chart, (day, day, edit))

    def test_each_form(self):
        chart = two_boxes()
        other = edited_chart(chart, [["entry", 0, [1, 0], HALVES]])
        self.assertEqual(other, chart.with_box(0, chart.boxes[0].with_entry((1, 0), HALVES)))
        self.assertEqual(edited_chart(chart, (("day", 1, 4),)), chart.with_day(1, 4))
        other = edited_chart(chart, [("take", 1, "a", "x")])
        self.assertEqual(other.boxes[1], Box(1, [X, B], [B, C], chart.boxes[1].entries))
        self.assertEqual((other.wires, other.outs, other.boxes[0]), (chart.wires, chart.outs, chart.boxes[0]))
        # The takes stand in their old order, and the entries with them.
        other = edited_chart(chart, [("take", 0, "x", "c")])
        self.assertEqual(other.boxes[0], Box(0, [C, A], [A], chart.boxes[0].entries))

    def test_no_edits(self):
        self.assertEqual(edited_chart(two_boxes(), []), two_boxes())
        self.assertEqual(edited_chart(two_boxes(), [("day", 0, 0)] * 5), two_boxes())

    def test_many(self):
        for things in [thing for thing in ODD_THINGS if not isinstance(thing, (list, tuple))] + [[("day", 0, 0)] * 6, "abc",
                                                                                             {0: ("day", 0, 0)}]:
            self.refuse(0, "many", edited_chart, two_boxes(), things)
            self.refuse(0, "many", check_edits, two_boxes(), things)
        for things in ([], ()):
            self.refuse(0, "many", check_edits, two_boxes(), things)

    def test_forms_that_are_none(self):
        for edit in ODD_THINGS + [("day", 0), ("day", 0, 0, 0), ("entry", 0, (0, 0)), ("take", 0, "x"), ("take", 0, "x", "c", 0),
                                  ("days", 0, 0), ("Day", 0, 0), (None, 0, 0), (["day"], 0, 0), {"day": 0}, "day", ("day",),
                                  ("entry", 0, (0, 0), (0,), 0), ("wire", 0, "x", "c")]:
            self.refuse_edit("edit", edit)

    def test_boxes_that_are_none(self):
        for number in [thing for thing in ODD_THINGS if not (type(thing) is int and thing in (0, 1))] + [2, -1, "0"]:
            for edit in [("entry", number, None, None), ("day", number, 99), ("take", number, None, None)]:
                self.refuse_edit("box", edit)

    def test_entries(self):
        for filling in ODD_THINGS + [(0, 2), (0, 0, 0), (0,), (True, 0), "00"]:
            self.refuse_edit("filling", ("entry", 0, filling, None))
        for entry in ODD_THINGS + [(2,), (0, 0), (True,), [], [((0,), (1, 2))], [((0,), (1, 2)), ((0,), (1, 2))], HALVES + HALVES,
                                   [((0,), (2, 1))], [((0,), (0, 1)), ((1,), (1, 1))], [((0,), [1, 1])]]:
            if entry not in ((1,), [1]):
                self.refuse_edit("entry", ["entry", 0, (0, 0), entry])

    def test_days(self):
        for day in [thing for thing in ODD_THINGS if not (type(thing) is int and 0 <= thing <= 9)] + [10, "1"]:
            self.refuse_edit("day", ("day", 1, day))

    def test_takes(self):
        for wire in ODD_THINGS + ["b", "c", "X", ["x"]]:
            if wire != "a":
                self.refuse_edit("wire", ("take", 0, wire, None))
        self.refuse_edit("wire", ("take", 0, "b", "c"))
        for other in ODD_THINGS + ["d", "C", ["c"]]:
            self.refuse_edit("other", ("take", 0, "x", other))
        # Of another size; taken already; itself.
        for wire, other in [("x", "b"), ("x", "a"), ("a", "x"), ("a", "a")]:
            self.refuse_edit("other", ("take", 0, wire, other))

    def test_letters_that_are_too_many(self):
        # b, c and d are letters; a is made on day 0 and taken on day 1 alone.
        wires = [(name, 4) for name in "abcd"]
        boxes = [identity_box(wire) for wire in wires[1:]]
        boxes += [Box(0, [], wires[:1], [(0,)]), Box(1, wires[:1], [("e", 2)], [(0,)] * 4)]
        chart = Chart(wires + [("e", 2), ("x", 4)], boxes, [])
        self.assertEqual(chart.letters, ("b", "c", "d"))
        self.refuse_edit("chart", ("day", 4, 0), chart)
        self.refuse_edit("chart", ("day", 3, 1), chart)
        self.refuse_edit("chart", ("take", 2, "d", "a"), edited_chart(chart, [("take", 4, "a", "d"), ("day", 4, 0)]))
        self.assertEqual(edited_chart(chart, [("take", 2, "d", "x"), ("day", 4, 0)]).letters, ("a", "b", "c"))

    def test_too_many_rows(self):
        eight = [((k // 4, k % 4), (1, 8)) for k in range(8)]
        nine = [((0, 0), (1, 2)), ((0, 1), (1, 2))]
        makes = [[("a", 2), ("p", 4)], [("b", 2), ("q", 4)], [("c", 2), ("r", 4)]]
        boxes = [Box(0, [], makes[0], [eight]), Box(0, [], makes[1], [eight]), Box(0, [], makes[2], [(0, 0)])]
        chart = Chart([wire for row in makes for wire in row], boxes, [])
        self.refuse_edit("chart", ("entry", 2, (), nine), chart)
        self.refuse(1, "chart", edited_chart, chart, [("entry", 2, (), (1, 1)), ("entry", 2, (), nine)])
        # When one of the others is sure there is room for it.
        self.assertFalse(edited_chart(chart, [("entry", 0, (), (1, 3)), ("entry", 2, (), nine)]).is_sure)

    def test_each_on_the_chart_that_is_left(self):
        chart = two_boxes()
        other = edited_chart(chart, [("take", 0, "x", "c"), ("take", 0, "c", "x")])
        self.assertEqual(other, chart)
        self.refuse(1, "wire", edited_chart, chart, [("take", 0, "x", "c"), ("take", 0, "x", "c")])
        self.refuse(1, "other", edited_chart, chart, [("take", 0, "x", "c"), ("take", 0, "a", "c")])
        # In a pool each edit is tried on the chart itself.
        pool = [("take", 0, "x", "c"), ("take", 0, "x", "c"), ("take", 0, "a", "c")]
        self.assertEqual(check_edits(chart, pool), tuple(pool))
        self.refuse(1, "wire", check_edits, chart, [("take", 0, "x", "c"), ("take", 0, "c", "x")])

    def test_pool_as_tuples(self):
        chart = two_boxes()
        entry = [[[1], (1, 2)], [[0], (1, 2)]]
        pool = [["entry", 0, [0, 1], entry], ["entry", 1, [1, 2], [2, 1]], ["day", 0, 3], ["take", 1, "a", "x"]]
        self.assertEqual(check_edits(chart, pool),
                         (("entry", 0, (0, 1), (((0,), (1, 2)), ((1,), (1, 2)))), ("entry", 1, (1, 2), (((2, 1), (1, 1)),)),
                          ("day", 0, 3), ("take", 1, "a", "x")))
        self.assertEqual(check_edits(chart, [("entry", 0, (0, 1), [((1,), (1, 1))])])[0][3], (((1,), (1, 1)),))
        self.assertEqual(len(check_edits(chart, [("day", 0, 0)] * 5)), 5)

    def test_drawn_edits(self):
        rng = random.Random(780)
        done = refused = 0
        for _ in range(300):
            chart = random_chart(rng, chance=0.2)
            edits = [random_edit(rng, chart) for _ in range(rng.randint(1, 5))]
            expected = chart
            for index, edit in enumerate(edits):
                after = slow_edited(expected, edit)
                if after is None:
                    break
                expected = after
            else:
                index = None
            if index is None:
                done += len(edits) > 1
                self.assertEqual(edited_chart(chart, edits), expected)
            else:
                refused += 1
                with self.assertRaises(BadEdits) as caught:
                    edited_chart(chart, edits)
                self.assertEqual(caught.exception.index, index)
            alone = [slow_edited(chart, edit) is None for edit in edits]
            if any(alone):
                with self.assertRaises(BadEdits) as caught:
                    check_edits(chart, edits)
                self.assertEqual(caught.exception.index, alone.index(True))
            else:
                told = check_edits(chart, edits)
                self.assertEqual([edited_chart(chart, [edit]) for edit in told], [slow_edited(chart, edit) for edit in edits])
        self.assertTrue(done > 30 and refused > 30, (done, refused))


if __name__ == "__main__":
    unittest.main()
