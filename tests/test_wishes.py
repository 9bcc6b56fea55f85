import random
import unittest

from alreadytold.badrings import bad_rings, fitting_posts
from alreadytold.boxes import Box
from alreadytold.charts import Chart, posts_of
from alreadytold.errors import BadIns, BadWish
from alreadytold.rings import rings_of
from alreadytold.wishes import check_wish, is_granted
from samples import ODD_THINGS, identity_box, ringed_charts, slow_worked, small_charts

X, A, B, C = ("x", 2), ("a", 2), ("b", 3), ("c", 2)


def shown():
    return Chart([X, A, B, C], [Box(0, [X, A, B], [A, B, C], [(0, 0, 0)] * 12)], ["b", "x", "c"])


def some_wishes(rng, chart):
    posts = posts_of(chart)
    row = [rng.choice([None, rng.randrange(dict(chart.wires)[name])]) for name in chart.outs]
    lot = [rng.choice(posts) for _ in range(rng.randint(0, len(posts)))]
    return [("outs", tuple(row)), ("still",), ("lot", tuple(sorted(set(lot)))), ("one ring",), ("story",)]


def slow_bad(chart, ins, wish):
    """[7.5] word by word."""
    rings = rings_of(chart, ins)
    names = [name for name, _ in chart.wires]
    if wish[0] == "one ring":
        return rings[1:]
    if wish[0] == "story":
        return () if any(len(ring) == 1 for ring in rings) else rings
    bad = []
    for ring in rings:
        if wish[0] == "still":
            right = len(ring) == 1
        elif wish[0] == "lot":
            right = set(ring) <= set(wish[1])
        else:
            right = all(worth in (None, filling[names.index(name)]) for post in ring
                        for filling, _, _ in slow_worked(chart, ins, post) for name, worth in zip(chart.outs, wish[1]))
        if not right:
            bad.append(ring)
    return tuple(bad)


def slow_fitting(chart, ins, wish):
    if wish[0] == "lot":
        return tuple(wish[1])
    if wish[0] != "outs":
        return posts_of(chart)
    told = [dict(zip(chart.ins + chart.letters, ins + post)) for post in posts_of(chart)]
    return tuple(post for post, worths in zip(posts_of(chart), told)
                 if all(worth is None or worths.get(name, worth) == worth for name, worth in zip(chart.outs, wish[1])))


class Wishes(unittest.TestCase):
    def test_against_the_words(self):
        granted = {}
        for rng, chart, ins in list(small_charts(461, 60)) + list(ringed_charts(461, 60)):
            chart = chart.with_outs([name for name, _ in rng.sample(chart.wires, min(2, len(chart.wires)))])
            for wish in some_wishes(rng, chart):
                listed = [list(thing) if isinstance(thing, tuple) else thing for thing in wish]
                bad = slow_bad(chart, ins, wish)
                self.assertEqual(check_wish(chart, listed), wish)
                self.assertEqual(bad_rings(chart, list(ins), listed), bad)
                self.assertIs(is_granted(chart, list(ins), listed), not bad)
                self.assertEqual(fitting_posts(chart, list(ins), listed), slow_fitting(chart, ins, wish))
                granted.setdefault(wish[0], []).append(not bad)
        for answers in granted.values():
            self.assertTrue(5 < sum(answers) < len(answers) - 5)

    def test_tuples(self):
        chart = shown()
        self.assertEqual(check_wish(chart, ["outs", [2, None, 1]]), ("outs", (2, None, 1)))
        self.assertEqual(check_wish(chart, ("lot", [[1, 2], (0, 0), [1, 2]])), ("lot", ((0, 0), (1, 2))))
        self.assertEqual(check_wish(chart, ("lot", [])), ("lot", ()))
        for word in ("still", "one ring", "story"):
            self.assertEqual(check_wish(chart, [word]), (word,))
        self.assertEqual(check_wish(chart.with_outs([]), ("outs", [])), ("outs", ()))

    def refuse(self, chart, what, wish):
        for function in (check_wish, lambda c, w: is_granted(c, (0,), w), lambda c, w: bad_rings(c, (0,), w),
                         lambda c, w: fitting_posts(c, (0,), w)):
            with self.assertRaises(BadWish) as caught:
                function(chart, wish)
            self.assertEqual(caught.exception.what, what, wish)

    def test_bad_wishes(self):
        chart = shown()
        for wish in ODD_THINGS + [("still", None), ("one ring", 0), ("story", ()), ("outs",), ("lot",), ("outs", [0, 0, 0], 0),
                                  ("lot", [], []), ("ring",), ("one",), (None,), ([],), "still", {"still": 0}, ("", []),
                                  ("Still",), ([], [])]:
            self.refuse(chart, "wish", wish)
        for row in [thing for thing in ODD_THINGS] + [(0, 0), (0, 0, 0, 0), (3, 0, 0), (0, 2, 0), (0, 0, True), (-1, 0, 0),
                                                      (0, "0", 0), "000"]:
            self.refuse(chart, "outs", ("outs", row))
        for lot in [thing for thing in ODD_THINGS if thing not in ((), [])] + [[(0, 0), (2, 0)], [(0,)], [(0, 0), None],
                                                                              [(True, 0)]]:
            self.refuse(chart, "lot", ("lot", lot))

    def test_bad_ins_first(self):
        for function in (is_granted, bad_rings, fitting_posts):
            for ins, index in [(None, 0), ((), 0), ((2,), 0), ((0, 0), 1)]:
                with self.assertRaises(BadIns) as caught:
                    function(shown(), ins, None)
                self.assertEqual(caught.exception.index, index)

    def test_all_rows_count(self):
        # One of the rows that may come does not show the wished out.
        box = Box(0, [A], [A, C], [[((0, 0), (9, 10)), ((0, 1), (1, 10))], (0, 0)])
        chart = Chart([A, C], [box], ["c"])
        self.assertFalse(is_granted(chart, (), ("outs", (0,))))
        self.assertTrue(is_granted(chart, (), ("outs", (None,))))
        self.assertEqual(bad_rings(chart, (), ("outs", (0,))), (((0,),),))

    def test_empty_lot(self):
        chart = Chart([A], [identity_box(A)], [])
        self.assertEqual(bad_rings(chart, (), ("lot", ())), (((0,),), ((1,),)))
        self.assertEqual(fitting_posts(chart, (), ("lot", ())), ())

    def test_story_of_a_chance_box(self):
        # A story is there, but no ring has just one post.
        chart = Chart([A], [Box(0, [A], [A], [[((0,), (1, 2)), ((1,), (1, 2))], (0,)])], [])
        self.assertFalse(is_granted(chart, (), ("story",)))
        self.assertEqual(bad_rings(chart, (), ("story",)), (((0,), (1,)),))

    def test_fitting(self):
        chart = Chart([X, A, C], [Box(0, [X, A], [A, C], [(0, 0)] * 4)], ["x", "c", "a"])
        self.assertEqual(fitting_posts(chart, (1,), ("outs", (1, 1, 0))), ((0,),))
        self.assertEqual(fitting_posts(chart, (1,), ("outs", (0, 1, 0))), ())
        self.assertEqual(fitting_posts(chart, (1,), ("outs", (None, 1, None))), ((0,), (1,)))

    def test_outs_of_chance(self):
        rng = random.Random(462)
        for _, chart, ins in small_charts(462, 20):
            wish = ("outs", tuple(None for _ in chart.outs))
            self.assertTrue(is_granted(chart, ins, wish))
            self.assertEqual(fitting_posts(chart, ins, wish), posts_of(chart))
            self.assertIsNotNone(rng)


if __name__ == "__main__":
    unittest.main()
