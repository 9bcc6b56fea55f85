import random
import unittest

from alreadytold.boxes import Box
from alreadytold.charts import Chart, all_ins, posts_of
from alreadytold.errors import BadIns
from alreadytold.grounding import known_rounds, known_worths
from alreadytold.lefts import left_worths, struck_rounds
from alreadytold.rings import rings_of
from alreadytold.working import worked
from samples import fillings, identity_box, random_chart, slow_stories, some_ins, sure_charts

X, A, B, C = ("x", 2), ("a", 2), ("b", 3), ("c", 2)


def slow_struck(chart, ins):
    """[6.6] word by word."""
    struck = {(name, worth) for name, told in zip(chart.ins, ins) if told is not None
              for worth in range(dict(chart.wires)[name]) if worth != told}
    rounds = [struck]
    while True:
        new = set()
        for box in chart.boxes:
            names = [name for name, _ in box.takes]
            for at, (name, size) in enumerate(box.makes):
                for worth in range(size):
                    stands = any(row[at] == worth for filling in fillings(box.take_sizes)
                                 if not any(couple in struck for couple in zip(names, filling))
                                 for row, _ in box.made_by(filling))
                    if not stands and (name, worth) not in struck:
                        new.add((name, worth))
        if not new:
            break
        struck = struck | new
        rounds.append(new)
    order = [name for name, _ in chart.wires]
    return tuple(tuple(sorted(row, key=lambda couple: (order.index(couple[0]), couple[1]))) for row in rounds), struck


def any_charts(seed, many):
    """Sure and chance charts in which often something is struck."""
    for _, chart in sure_charts(seed, many // 2):
        yield random.Random(many + len(chart.wires)), chart
    rng = random.Random(seed)
    for _ in range(many // 2):
        chart = random_chart(rng, chance=0.3, wires=5)
        if len(posts_of(chart)) <= 24:
            yield rng, chart


class Lefts(unittest.TestCase):
    def test_against_the_words(self):
        long = 0
        for rng, chart in any_charts(411, 200):
            ins = some_ins(rng, chart)
            rounds, struck = slow_struck(chart, ins)
            long += len(rounds) > 2
            self.assertEqual(struck_rounds(chart, list(ins)), rounds)
            self.assertEqual(left_worths(chart, list(ins)),
                             tuple(tuple(worth for worth in range(size) if (name, worth) not in struck)
                                   for name, size in chart.wires))
            self.assertTrue(all(left_worths(chart, ins)))
        self.assertGreater(long, 10)

    def test_rounds(self):
        chart = Chart([X, A, B], [Box(0, [X, A], [A], [(0,), (0,), (0,), (1,)]), Box(1, [A], [B], [(1,), (2,)])], [])
        self.assertEqual(struck_rounds(chart, (None,)), ((), (("b", 0),)))
        self.assertEqual(struck_rounds(chart, (0,)), ((("x", 1),), (("a", 1), ("b", 0)), (("b", 2),)))
        self.assertEqual(left_worths(chart, (1,)), ((1,), (0, 1), (1, 2)))
        chance = Chart([A, B], [Box(0, [A], [B], [[((0,), (1, 2)), ((2,), (1, 2))], (1,)]), identity_box(A)], [])
        self.assertEqual(struck_rounds(chance, ()), ((),))
        self.assertEqual(left_worths(Chart([A, B], [Box(0, [A], [B], [(0,), [((0,), (1, 2)), ((2,), (1, 2))]])], []),
                                     (0,)), ((0,), (0,)))

    def test_stories_and_rings_have_left_worths(self):
        for rng, chart in any_charts(412, 80):
            ins = some_ins(rng, chart)
            lefts = left_worths(chart, ins)
            names = [name for name, _ in chart.wires]
            rounds = struck_rounds(chart, ins)
            for full in all_ins(chart):
                if not all(one in (None, two) for one, two in zip(ins, full)):
                    continue
                for story in slow_stories(chart, full):
                    self.assertTrue(all(worth in left for worth, left in zip(story, lefts)))
                for post in [post for ring in rings_of(chart, full) for post in ring]:
                    self.assertTrue(all(worth in lefts[names.index(name)] for name, worth in zip(chart.letters, post)))
                post = rng.choice(posts_of(chart))
                for turns in range(4):
                    gone = [couple for row in rounds[:turns + 1] for couple in row] if turns else []
                    self.assertFalse([name for name, worth in zip(chart.letters, post) if (name, worth) in gone])
                    post = rng.choice(worked(chart, full, post))[1]

    def test_sure_boxes_and_size_2(self):
        same = 0
        for rng, chart in sure_charts(413, 150):
            ins = some_ins(rng, chart)
            known, lefts = known_worths(chart, ins), left_worths(chart, ins)
            for worth, left in zip(known, lefts):
                if worth is not None:
                    self.assertEqual(left, (worth,))
            if all(size == 2 for _, size in chart.wires):
                same += 1
                struck = tuple(tuple(name for name, _ in row) for row in struck_rounds(chart, ins))
                self.assertEqual(struck, known_rounds(chart, ins))
        self.assertGreater(same, 5)

    def test_bad_ins(self):
        chart = Chart([X, C, A], [identity_box(A)], [])
        for function in (struck_rounds, left_worths):
            for ins, index in [(None, 0), ((), 0), ((None,), 1), ((0, 2), 1), ((True, 0), 0), ((0, None, None), 2)]:
                with self.assertRaises(BadIns) as caught:
                    function(chart, ins)
                self.assertEqual(caught.exception.index, index)


if __name__ == "__main__":
    unittest.main()
