import random
import unittest
from itertools import combinations, product

from alreadytold.boxes import Box
from alreadytold.charts import Chart, posts_of
from alreadytold.errors import BadChanges, BadIns, BadWish, NotOneBox
from alreadytold.fewest import (Fewest, NoWay, changed_chart, changes_fault, fewest_changes, fewest_number, needed_posts)
from alreadytold.rings import rings_of
from alreadytold.wishes import is_granted
from samples import ODD_THINGS, fillings, identity_box, one_box_charts
from test_wishes import slow_bad, slow_fitting, some_wishes

X, A, B, C = ("x", 2), ("a", 2), ("b", 2), ("c", 3)


def worded():
    """[7.10]"""
    return Chart([X, A, B], [Box(0, [X, A], [A, B], [(0, 0), (0, 0), (1, 0), (0, 1)])], ["b"])


def slow_changed(chart, ins, changes):
    """The chart with the entries changed, entry by entry."""
    box = chart.boxes[0]
    for post, row in changes:
        worths = dict(zip(chart.ins + chart.letters, ins + post))
        box = box.with_entry(tuple(worths[name] for name, _ in box.takes), row)
    return Chart(chart.wires, [box], chart.outs)


def all_changes(chart, ins, number):
    """All changes of so many entries."""
    rows = fillings(chart.boxes[0].make_sizes)
    for posts in combinations(posts_of(chart), number):
        choices = []
        for post in posts:
            worths = dict(zip(chart.ins + chart.letters, ins + post))
            entry = chart.boxes[0].made_by([worths[name] for name, _ in chart.boxes[0].takes])
            choices.append([row for row in rows if entry != ((row, (1, 1)),)])
        for chosen in product(*choices):
            yield tuple(zip(posts, chosen))


def slow_fewest(chart, ins, wish):
    """All changes of the least number that grant the wish, by going through all; none if there is no way."""
    for number in range(len(posts_of(chart)) + 1):
        found = [changes for changes in all_changes(chart, ins, number)
                 if not slow_bad(slow_changed(chart, ins, changes), ins, wish)]
        if found:
            return found
    return []


def cheap(chart, wish, ins):
    """Whether going through all changes comes to an end soon."""
    bad = slow_bad(chart, ins, wish)
    rows = len(fillings(chart.boxes[0].make_sizes))
    number = len(bad) + (1 if len(bad) == len(rings_of(chart, ins)) else 0)
    many = len(posts_of(chart))
    if wish[0] in ("outs", "lot") and not slow_fitting(chart, ins, wish):
        number = many
    total = 1
    for k in range(number):
        total = total * (many - k) * rows // (k + 1)
    return total < 3000


class Numbers(unittest.TestCase):
    def test_against_all_changes(self):
        seen = {}
        charts = list(one_box_charts(471, 150)) + list(one_box_charts(472, 100, chance=0.4))
        for rng, chart, ins in charts:
            for wish in some_wishes(rng, chart):
                if not cheap(chart, wish, ins):
                    continue
                found = slow_fewest(chart, ins, wish)
                listed = [list(thing) if isinstance(thing, tuple) else thing for thing in wish]
                if found:
                    number = len(found[0])
                    fewest = fewest_changes(chart, list(ins), listed)
                    self.assertEqual(fewest.number, number)
                    self.assertIn(fewest.changes, found)
                    needed = [post for post in posts_of(chart) if all(post in dict(changes) for changes in found)]
                    self.assertEqual(changes_fault(chart, ins, wish, fewest.changes), None)
                    self.assertEqual(changes_fault(chart, list(ins), listed, [list(map(list, row)) for row in fewest.changes]), None)
                else:
                    number, needed = None, []
                    self.assertEqual(fewest_changes(chart, ins, wish), NoWay())
                    for changes in list(all_changes(chart, ins, 1))[:3]:
                        self.assertEqual(changes_fault(chart, ins, wish, changes), "wish")
                self.assertEqual(fewest_number(chart, list(ins), listed), number)
                self.assertEqual(needed_posts(chart, list(ins), listed), tuple(needed))
                seen.setdefault(wish[0], []).append((number, len(needed)))
        for word, least in [("outs", {None, 0, 1, 2, 3}), ("lot", {None, 0, 1, 2}), ("still", {0, 1}), ("one ring", {0, 1, 2}),
                            ("story", {0, 1})]:
            self.assertGreaterEqual({number for number, _ in seen[word]}, least, word)
        self.assertTrue(any(needed for _, needed in seen["outs"]) and any(needed for _, needed in seen["lot"]))

    def test_example(self):
        self.assertEqual(fewest_number(worded(), (1,), ("still",)), 1)
        self.assertEqual(fewest_number(worded(), (0,), ["still"]), 0)
        self.assertEqual(fewest_changes(worded(), (0,), ("still",)), Fewest(0, ()))
        self.assertEqual(needed_posts(worded(), (1,), ("still",)), ())

    def test_one_more_than_the_bad_rings(self):
        # The only ring is 0, and only 2 fits, so 0 and 2 are changed.
        wire = ("a", 3)
        chart = Chart([wire], [Box(0, [wire], [wire], [(0,), (0,), (1,)])], [])
        wish = ("lot", [(2,)])
        self.assertEqual(fewest_number(chart, (), wish), 2)
        self.assertEqual(fewest_changes(chart, (), wish), Fewest(2, (((0,), (2,)), ((2,), (2,)))))
        self.assertEqual(needed_posts(chart, (), wish), ((0,), (2,)))
        self.assertEqual(needed_posts(chart, (), ("lot", [(2,), (1,)])), ((0,),))

    def test_one_change_makes_a_story(self):
        wire = ("a", 4)
        chart = Chart([wire], [Box(0, [wire], [wire], [(1,), (0,), (3,), (2,)])], [])
        self.assertEqual(fewest_number(chart, (), ("story",)), 1)
        fewest = fewest_changes(chart, (), ("story",))
        self.assertIsNone(changes_fault(chart, (), ("story",), fewest.changes))
        self.assertEqual(needed_posts(chart, (), ("story",)), ())
        self.assertEqual(fewest_number(chart, (), ("still",)), 2)
        self.assertEqual(fewest_number(chart, (), ("one ring",)), 1)

    def test_only_fitting_post_in_a_ring(self):
        wire = ("a", 4)
        chart = Chart([wire], [Box(0, [wire], [wire], [(1,), (0,), (3,), (2,)])], [])
        self.assertEqual(needed_posts(chart, (), ("lot", [(2,)])), ((2,),))
        self.assertEqual(needed_posts(chart, (), ("lot", [(2,), (1,)])), ())
        self.assertEqual(needed_posts(chart, (), ("lot", [])), ())
        self.assertEqual(fewest_number(chart, (), ("lot", [(2,)])), 2)
        self.assertIsNone(fewest_number(chart, (), ("lot", [])))

    def test_results(self):
        thing = [0]
        self.assertIs(Fewest(thing, 1).number, thing)
        self.assertTrue(Fewest(number=[0], changes=1) == Fewest(thing, 1))
        for other in [Fewest([0], 2), Fewest(1, 1), ([0], 1), NoWay()]:
            self.assertTrue(Fewest(thing, 1) != other)
        self.assertTrue(NoWay() == NoWay())
        self.assertFalse(NoWay() != NoWay())
        self.assertTrue(NoWay() != ())


class Changed(unittest.TestCase):
    def test_entries(self):
        for rng, chart, ins in one_box_charts(473, 40, chance=0.3):
            number = rng.randint(0, min(3, len(posts_of(chart))))
            changes = rng.choice(list(all_changes(chart, ins, min(number, 2))))
            expected = slow_changed(chart, ins, changes)
            self.assertEqual(changed_chart(chart, list(ins), [list(map(list, row)) for row in changes]), expected)
            self.assertEqual(changed_chart(chart, ins, changes), expected)
        self.assertEqual(changed_chart(worded(), (1,), ()), worded())

    def refuse(self, index, what, changes):
        chart = worded()
        with self.assertRaises(BadChanges) as caught:
            changed_chart(chart, (1,), changes)
        self.assertEqual((caught.exception.index, caught.exception.what), (index, what), changes)
        self.assertEqual(changes_fault(chart, (1,), ("still",), changes), what)

    def test_words_in_order(self):
        good = ((0,), (0, 0))
        for changes in ODD_THINGS:
            if not isinstance(changes, (list, tuple)):
                self.refuse(0, "many", changes)
        self.refuse(0, "many", [good] * 3)
        for change in ODD_THINGS + [good + (0,), (good,), "ab", {0: 1, 1: 2}]:
            if not isinstance(change, (list, tuple)) or len(change) != 2:
                self.refuse(1, "change", [good, change])
        for post in ODD_THINGS + [(2,), (0, 0), [True], ()]:
            if post not in ((1,), [1]):
                self.refuse(0, "post", [(post, None)])
        for row in ODD_THINGS + [(0,), (0, 2), (0, True), (0, 0, 0)]:
            self.refuse(1, "row", [good, ((0,), row)])
        self.refuse(1, "order", [((1,), (0, 0)), ((0,), (1, 0))])
        self.refuse(1, "order", [good, good])
        self.refuse(0, "same", [((0,), (1, 0)), None])
        self.refuse(1, "same", [good, ((1,), [0, 1])])
        # All words of one change come before those of the next.
        self.refuse(0, "same", [((0,), (1, 0)), ((0,), (0, 0))])

    def test_same_is_this_sure_row(self):
        chart = Chart([A], [Box(0, [A], [A], [[((0,), (1, 2)), ((1,), (1, 2))], (1,)])], [])
        changed = changed_chart(chart, (), [((0,), (1,))])
        self.assertEqual(changed.boxes[0].entries[0], (((1,), (1, 1)),))

    def test_faults(self):
        chart = worded()
        self.assertEqual(changes_fault(chart, (1,), ("still",), ()), "wish")
        self.assertEqual(changes_fault(chart, (1,), ("still",), [((0,), (1, 1))]), "wish")
        self.assertIsNone(changes_fault(chart, (1,), ("still",), [((0,), (0, 1))]))
        self.assertEqual(changes_fault(chart, (1,), ("still",), [((0,), (0, 1)), ((1,), (0, 0))]), "more")
        self.assertIsNone(changes_fault(chart, (0,), ("still",), ()))
        self.assertEqual(changes_fault(chart, (0,), ("still",), [((0,), (0, 1))]), "more")
        self.assertEqual(changes_fault(chart, (0,), ("outs", [1]), [((0,), (0, 1))]), None)

    def test_refusals_in_order(self):
        two = Chart([X, A, B], [identity_box(A), identity_box(B)], [])
        lacking = Chart([X, A, B], [Box(0, [A], [A, B], [(0, 0), (0, 0)])], [])
        for function in (changed_chart, fewest_number, fewest_changes, needed_posts, lambda *t: changes_fault(*t, None)):
            for what, chart in [("boxes", two), ("ins", lacking)]:
                with self.assertRaises(NotOneBox) as caught:
                    function(chart, None, None)
                self.assertEqual(caught.exception.what, what)
            for ins, index in [(None, 0), ((), 0), ((2,), 0), ((0, 0), 1)]:
                with self.assertRaises(BadIns) as caught:
                    function(worded(), ins, None)
                self.assertEqual(caught.exception.index, index)
        for function in (fewest_number, fewest_changes, needed_posts, lambda *t: changes_fault(*t, None)):
            for wish, what in [(None, "wish"), (("outs", [2]), "outs"), (("lot", 0), "lot"), (("still", 0), "wish")]:
                with self.assertRaises(BadWish) as caught:
                    function(worded(), (1,), wish)
                self.assertEqual(caught.exception.what, what)

    def test_chance_boxes(self):
        rng = random.Random(474)
        for _, chart, ins in one_box_charts(475, 60, chance=0.6):
            for wish in some_wishes(rng, chart):
                fewest = fewest_changes(chart, ins, wish)
                if isinstance(fewest, Fewest):
                    self.assertTrue(is_granted(slow_changed(chart, ins, fewest.changes), ins, wish))
                else:
                    self.assertEqual(slow_fitting(chart, ins, wish), ())


if __name__ == "__main__":
    unittest.main()
