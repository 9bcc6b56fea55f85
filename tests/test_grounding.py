import unittest

from alreadytold.boxes import Box
from alreadytold.charts import Chart, all_ins, posts_of
from alreadytold.errors import BadIns, BadTold, ChanceBox
from alreadytold.grounding import (check_told, first_ungrounded, known_rounds, known_worths, letter_waves, self_made)
from alreadytold.rings import rings_of, turns_to_rings
from alreadytold.working import worked
from samples import ODD_THINGS, agreeing, identity_box, slow_known, slow_stories, some_ins, some_told, sure_charts

X, Y, A, B, C = ("x", 2), ("y", 2), ("a", 2), ("b", 3), ("c", 2)


class Told(unittest.TestCase):
    def test_any_order(self):
        chart = Chart([A, B, C], [identity_box(A), identity_box(B), identity_box(C)], [])
        self.assertEqual(check_told(chart, [["c", 1], ("a", 0)]), (("a", 0), ("c", 1)))
        self.assertEqual(check_told(chart, (("b", 2),)), (("b", 2),))
        self.assertEqual(check_told(chart, ()), ())

    def test_bad_told(self):
        chart = Chart([X, A, B, C], [identity_box(A), identity_box(B), Box(1, [A], [C], [(0,), (1,)])], [])
        rows = [(0, thing) for thing in ODD_THINGS if not isinstance(thing, (list, tuple))]
        rows += [(0, [thing]) for thing in ODD_THINGS + [("x", 0), ("c", 0), ("a", 2), ("a", -1), ("a",), ("a", 0, 0),
                                                         ["a", None], ("a", "0"), ([], 0), (None, 0)]]
        rows += [(1, [("b", 2), ("b", 2)]), (2, [("b", 2), ("a", 0), ["b", 1], 0]), (1, [("b", 0), ("a", 3)]),
                 (1, [("b", 0), None, None])]
        for index, told in rows:
            for function in (check_told, lambda c, t: known_rounds(c, (0,), t), lambda c, t: known_worths(c, (0,), told=t)):
                with self.assertRaises(BadTold) as caught:
                    function(chart, told)
                self.assertEqual(caught.exception.index, index, told)


class Known(unittest.TestCase):
    def test_against_the_words(self):
        long = 0
        for rng, chart in sure_charts(371, 150):
            ins, told = some_ins(rng, chart), some_told(rng, chart)
            rounds, worths = slow_known(chart, ins, told)
            long += len(rounds) > 2
            self.assertEqual(known_rounds(chart, list(ins), list(told)), rounds)
            self.assertEqual(known_worths(chart, list(ins), tuple(told)), tuple(worths.get(name) for name, _ in chart.wires))
            if not told:
                self.assertEqual(known_rounds(chart, ins), rounds)
                self.assertEqual(known_worths(chart, ins), tuple(worths.get(name) for name, _ in chart.wires))
        self.assertGreater(long, 15)

    def test_in_each_story(self):
        checked = 0
        for rng, chart in sure_charts(372, 60):
            ins, told = some_ins(rng, chart), some_told(rng, chart)
            known = known_worths(chart, ins, told)
            names = [name for name, _ in chart.wires]
            for full in all_ins(chart):
                if all(one in (None, two) for one, two in zip(ins, full)):
                    for story in slow_stories(chart, full):
                        if all(story[names.index(name)] == worth for name, worth in told):
                            checked += 1
                            self.assertTrue(all(one in (None, two) for one, two in zip(known, story)))
                    more = known_worths(chart, full, told)
                    self.assertTrue(all(one in (None, two) for one, two in zip(known, more)))
        self.assertGreater(checked, 100)

    def test_nothing_told(self):
        chart = Chart([X, A, C], [Box(0, [X, A], [A], [(0,), (0,), (0,), (1,)]), Box(1, [], [C], [(1,)])], [])
        self.assertEqual(known_rounds(chart, (None,)), ((), ("c",)))
        self.assertEqual(known_rounds(chart, (0,)), (("x",), ("a", "c")))
        self.assertEqual(known_rounds(chart, (1,)), (("x",), ("c",)))
        self.assertEqual(known_rounds(chart, (1,), [("a", 1)]), (("x", "a"), ("c",)))
        self.assertEqual(known_worths(chart, (None,)), (None, None, 1))
        self.assertEqual(known_rounds(Chart([X, A], [identity_box(A)], []), (None,)), ((),))

    def test_told_letters_are_not_asked_for(self):
        # The maker of a would make 0, but the letter was told as 1.
        chart = Chart([A, C], [Box(0, [A, C], [A, C], [(0, 0), (0, 0), (0, 1), (0, 1)])], [])
        self.assertEqual(known_worths(chart, (), [("a", 1)]), (1, 1))
        self.assertEqual(known_worths(chart, ()), (0, 0))

    def test_refusals_in_order(self):
        chance = Chart([X, A], [Box(0, [X, A], [A], [[((0,), (1, 2)), ((1,), (1, 2))]] * 4)], [])
        second = Chart([X, A, C], [identity_box(C), Box(0, [X, A], [A], [[((0,), (1, 2)), ((1,), (1, 2))]] * 4)], [])
        for function in (known_rounds, known_worths, letter_waves, self_made, lambda c, i: first_ungrounded(c)):
            for index, chart in [(0, chance), (1, second)]:
                with self.assertRaises(ChanceBox) as caught:
                    function(chart, None)
                self.assertEqual(caught.exception.index, index)
        chart = Chart([X, Y, A], [Box(0, [X, A], [A], [(0,)] * 4)], [])
        for function in (lambda c, i: known_rounds(c, i, 0), lambda c, i: known_worths(c, i, 0), letter_waves, self_made):
            for ins, index in [(None, 0), ((), 0), ((None,), 1), ((None, 2), 1), ((0, True), 1), ((0, 0, None), 2)]:
                with self.assertRaises(BadIns) as caught:
                    function(chart, ins)
                self.assertEqual(caught.exception.index, index)


class Waves(unittest.TestCase):
    def slow(self, chart, ins):
        """[6.3] word by word."""
        worths = {name: worth for name, worth in zip(chart.ins, ins) if worth is not None}
        waves = []
        while True:
            while True:
                new = self.made(chart, worths, [name for name, _ in chart.wires if name not in chart.letters])
                if not new:
                    break
                worths.update(new)
            new = self.made(chart, worths, chart.letters)
            if not new:
                return tuple(waves)
            worths.update(new)
            waves.append(tuple(name for name in chart.letters if name in new))

    def made(self, chart, worths, names):
        new = {}
        for box in chart.boxes:
            rows = agreeing(box, worths)
            for at, (name, _) in enumerate(box.makes):
                if name in names and name not in worths and len({row[at] for _, row in rows}) == 1:
                    new[name] = rows[0][1][at]
        return new

    def test_against_the_words(self):
        several = grounded = 0
        for rng, chart in sure_charts(373, 200):
            ins = some_ins(rng, chart)
            waves = letter_waves(chart, list(ins))
            self.assertEqual(waves, self.slow(chart, ins))
            several += len(waves) > 1
            known = known_worths(chart, ins)
            names = [name for name, _ in chart.wires]
            self.assertEqual(sorted(name for wave in waves for name in wave),
                             sorted(name for name in chart.letters if known[names.index(name)] is not None))
            full = rng.choice([row for row in all_ins(chart) if all(a in (None, b) for a, b in zip(ins, row))])
            post = rng.choice(posts_of(chart))
            for turns, wave in enumerate(waves):
                post = worked(chart, full, post)[0][1]
                for name in [name for earlier in waves[:turns + 1] for name in earlier]:
                    self.assertEqual(post[chart.letters.index(name)], known[names.index(name)])
            if sum(map(len, waves)) == len(chart.letters):
                grounded += 1
                self.assertEqual([len(ring) for ring in rings_of(chart, full)], [1])
                self.assertLessEqual(max(turns_to_rings(chart, full)), len(waves))
        self.assertGreater(several, 10)
        self.assertGreater(grounded, 15)

    def test_one_ring_and_no_known_letter(self):
        entries = [(0, 0), (0, 0), (1, 1), (0, 1)]
        chart = Chart([A, C], [Box(0, [A, C], [A, C], entries)], [])
        self.assertEqual(rings_of(chart, ()), (((0, 0),),))
        self.assertEqual(letter_waves(chart, ()), ())
        self.assertEqual(first_ungrounded(chart), ())
        self.assertEqual(known_worths(chart, ()), (None, None))

    def test_waves_go_through_plain_wires(self):
        boxes = [Box(0, [X, A], [C], [(1,), (1,), (0,), (1,)]), Box(1, [C], [A, B], [(1, 2), (0, 1)])]
        chart = Chart([X, A, B, C], boxes, [])
        self.assertEqual(chart.letters, ("a",))
        self.assertEqual(letter_waves(chart, (0,)), (("a",),))
        self.assertEqual(known_rounds(chart, (0,)), (("x",), ("c",), ("a", "b")))
        self.assertEqual(letter_waves(chart, (1,)), ())

    def test_first_ungrounded(self):
        found = 0
        for _, chart in sure_charts(374, 80):
            names = [name for name, _ in chart.wires]
            bad = [ins for ins in all_ins(chart)
                   if any(slow_known(chart, ins)[1].get(name) is None for name in chart.letters)]
            self.assertEqual(first_ungrounded(chart), bad[0] if bad else None)
            found += not bad
            self.assertTrue(names)
        self.assertGreater(found, 5)
        self.assertIsNone(first_ungrounded(Chart([X, A], [Box(0, [X], [A], [(0,), (1,)])], [])))


class SelfMade(unittest.TestCase):
    def test_against_the_words(self):
        rows_seen = 0
        for rng, chart in sure_charts(375, 150):
            ins = some_ins(rng, chart)
            worths = slow_known(chart, ins)[1]
            expected = []
            for name, _ in chart.wires:
                for box in chart.boxes:
                    makes = [make for make, _ in box.makes]
                    if name in makes and name not in worths:
                        rows = agreeing(box, worths)
                        first, row = rows[0]
                        other = next(filling for filling, made in rows if made[makes.index(name)] != row[makes.index(name)])
                        expected.append((name, first, other))
            self.assertEqual(self_made(chart, list(ins)), tuple(expected))
            rows_seen += len(expected)
        self.assertGreater(rows_seen, 50)

    def test_example(self):
        chart = Chart([X, A], [Box(0, [X, A], [A], [(0,), (0,), (0,), (1,)])], [])
        self.assertEqual(self_made(chart, (0,)), ())
        self.assertEqual(self_made(chart, (1,)), (("a", (1, 0), (1, 1)),))
        self.assertEqual(self_made(chart, (None,)), (("a", (0, 0), (1, 1)),))


if __name__ == "__main__":
    unittest.main()
