import random
import unittest

from alreadytold.boxes import Box
from alreadytold.charts import Chart, all_ins, posts_of
from alreadytold.errors import BadIns, BadPost, ChanceBox, HasStory, NoStory, NoWire
from alreadytold.tellings import Sure, Two, Walk, quarrels_of, story_sure, tells, walk_from, why_quarrel
from samples import ODD_THINGS, random_chart, slow_stories, slow_worked

HALF = (1, 2)
X, A, B = ("x", 2), ("a", 2), ("b", 3)


def keeper():
    return Chart([X, A], [Box(0, [X, A], [A], [(0,), (1,), (1,), (0,)])], [])


class Results(unittest.TestCase):
    def test_equal(self):
        for kind, things in [(Sure, (1,)), (Two, ((0,), (1,))), (Walk, (((0,),), 0))]:
            self.assertTrue(kind(*things) == kind(*things))
            self.assertFalse(kind(*things) != kind(*things))
            for place in range(len(things)):
                other = list(things)
                other[place] = None
                self.assertFalse(kind(*things) == kind(*other))
                self.assertTrue(kind(*things) != kind(*other))
        self.assertNotEqual(Sure(1), (1,))
        self.assertNotEqual(Two(1, 2), Walk(1, 2))

    def test_they_keep_the_very_things(self):
        thing, other = [1], {}
        self.assertIs(Sure(thing).worth, thing)
        two, walk = Two(one=thing, other=other), Walk(posts=thing, back=other)
        self.assertTrue(two.one is thing and two.other is other and walk.posts is thing and walk.back is other)


class Tellings(unittest.TestCase):
    def test_tells_and_sure_against_all_fillings(self):
        rng = random.Random(31)
        kinds = {Sure: 0, Two: 0, NoStory: 0}
        for number in range(150):
            chart = random_chart(rng, chance=0.5 if number % 2 else 0.0)
            for ins in all_ins(chart)[:3]:
                stories = slow_stories(chart, ins)
                for place, (wire, _) in enumerate(chart.wires):
                    worths = tuple(sorted({filling[place] for filling in stories}))
                    self.assertEqual(tells(chart, list(ins), wire), worths)
                    if not worths:
                        kinds[NoStory] += 1
                        with self.assertRaises(NoStory) as caught:
                            story_sure(chart, list(ins), wire)
                        self.assertEqual(caught.exception.thing, ins)
                        continue
                    others = [filling for filling in stories if filling[place] != stories[0][place]]
                    expected = Two(stories[0], others[0]) if others else Sure(worths[0])
                    self.assertEqual(story_sure(chart, ins, wire), expected)
                    kinds[type(expected)] += 1
        self.assertGreater(min(kinds.values()), 20)

    def test_refusals(self):
        chart = keeper()
        for function in (tells, story_sure):
            for ins, index in [(None, 0), ((2,), 0), ((0, 0), 1)]:
                with self.assertRaises(BadIns) as caught:
                    function(chart, ins, None)
                self.assertEqual(caught.exception.index, index)
            for thing in ODD_THINGS:
                if thing != "a":
                    # NoWire comes ahead of NoStory.
                    with self.assertRaises(NoWire) as caught:
                        function(chart, (1,), thing)
                    self.assertIs(caught.exception.name, thing)


class Quarrels(unittest.TestCase):
    def test_against_all_fillings(self):
        rng = random.Random(32)
        many = 0
        for number in range(120):
            chart = random_chart(rng, chance=0.3 if number % 2 else 0.0)
            expected = tuple(ins for ins in all_ins(chart) if not slow_stories(chart, ins))
            self.assertEqual(quarrels_of(chart), expected)
            many += len(expected)
            for ins in all_ins(chart)[:3]:
                if ins not in expected:
                    with self.assertRaises(HasStory) as caught:
                        why_quarrel(chart, list(ins))
                    self.assertEqual(caught.exception.filling, slow_stories(chart, ins)[0])
                    continue
                rows = why_quarrel(chart, ins)
                self.assertEqual(rows, tuple(
                    (post, tuple(sorted({sent for _, sent, _ in slow_worked(chart, ins, post)})))
                    for post in posts_of(chart)))
                for post, sent_posts in rows:
                    self.assertNotIn(post, sent_posts)
        self.assertGreater(many, 20)

    def test_example(self):
        self.assertEqual(quarrels_of(keeper()), ((1,),))
        self.assertEqual(why_quarrel(keeper(), [1]), (((0,), ((1,),)), ((1,), ((0,),))))
        chart = Chart([B], [Box(0, [B], [B], [[((1,), HALF), ((2,), HALF)], [((0,), HALF), ((2,), HALF)], (1,)])], [])
        self.assertEqual(why_quarrel(chart, ()), (((0,), ((1,), (2,))), ((1,), ((0,), (2,))), ((2,), ((1,),))))

    def test_refused_ins(self):
        with self.assertRaises(BadIns):
            why_quarrel(keeper(), (2,))


class Walks(unittest.TestCase):
    def test_walks(self):
        rng = random.Random(33)
        for _ in range(100):
            chart = random_chart(rng)
            for ins in all_ins(chart)[:2]:
                ends = False
                for post in posts_of(chart):
                    walk = walk_from(chart, list(ins), list(post))
                    self.assertIsInstance(walk.posts, tuple)
                    self.assertEqual(len(set(walk.posts)), len(walk.posts))
                    self.assertEqual(walk.posts[0], post)
                    following = walk.posts[1:] + (walk.posts[walk.back],)
                    for here, sent in zip(walk.posts, following):
                        self.assertEqual(slow_worked(chart, ins, here)[0][1], sent)
                    ends = ends or walk.back == len(walk.posts) - 1
                # There is a quarrel exactly if no walk ends in a story.
                self.assertEqual(ends, ins not in quarrels_of(chart))

    def test_example(self):
        chart = Chart([B], [Box(0, [B], [B], [(1,), (2,), (1,)])], [])
        self.assertEqual(walk_from(chart, (), (0,)), Walk(((0,), (1,), (2,)), 1))
        self.assertEqual(walk_from(keeper(), (0,), (1,)), Walk(((1,),), 0))

    def test_refusals_in_order(self):
        chance = Chart([X, A], [Box(0, [A], [A], [(0,), [((0,), HALF), ((1,), HALF)]])], [])
        with self.assertRaises(ChanceBox) as caught:
            walk_from(chance, None, None)
        self.assertEqual(caught.exception.index, 0)
        with self.assertRaises(BadIns):
            walk_from(keeper(), (2,), None)
        with self.assertRaises(BadPost) as caught:
            walk_from(keeper(), (0,), (0, 0))
        self.assertEqual(caught.exception.index, 1)


if __name__ == "__main__":
    unittest.main()
