import random
import unittest
from itertools import product

from alreadytold.boxes import Box
from alreadytold.charts import Chart, posts_of
from alreadytold.errors import BadIns, BadPost
from alreadytold.leading import lasting_terms
from alreadytold.leastslips import changes_needed, last_rings, least_slips, slip_way, tree_costs, way_fault
from alreadytold.rings import rings_of
from samples import (ODD_THINGS, example, most_of_three, no_letters, ringed_charts, slow_changes, slow_table,
                     small_charts)

X, A, B = ("x", 2), ("a", 3), ("b", 2)


def slow_needed(chart, ins):
    """The least counts between all posts: by going on from each post as long as something gets less."""
    posts, table = posts_of(chart), slow_table(chart, ins)
    many = len(posts)
    step = [[0 if table[i][j] > 0 or i == j else 1 if posts[j] in slow_changes(posts, posts[i]) else 99
             for j in range(many)] for i in range(many)]
    for k in range(many):
        step = [[min(step[i][j], step[i][k] + step[k][j]) for j in range(many)] for i in range(many)]
    return step


def slow_costs(slips):
    """[5.11] by going through all trees."""
    many = len(slips)
    costs = []
    for root in range(many):
        best = None
        others = [ring for ring in range(many) if ring != root]
        for chosen in product(range(many), repeat=many - 1):
            points = dict(zip(others, chosen))
            if any(ring == goal for ring, goal in points.items()):
                continue
            reached = 0
            for ring in others:
                here, seen = ring, set()
                while here != root and here not in seen:
                    seen.add(here)
                    here = points[here]
                reached += here == root
            cost = sum(slips[ring][goal] for ring, goal in points.items())
            if reached == len(others) and (best is None or cost < best):
                best = cost
        costs.append(best)
    return tuple(costs)


def some(seed, many):
    return list(small_charts(seed, many)) + list(ringed_charts(seed, many))


class Ways(unittest.TestCase):
    def test_least_counts(self):
        far = 0
        for rng, chart, ins in some(361, 40):
            posts, needed = posts_of(chart), slow_needed(chart, ins)
            for number, post in enumerate(posts):
                self.assertEqual(changes_needed(chart, list(ins), list(post)), tuple(needed[number]))
                goal = rng.choice(posts)
                way = slip_way(chart, list(ins), list(post), list(goal))
                self.assertIsInstance(way, tuple)
                self.assertTrue(all(step in posts for step in way))
                self.assertIsNone(way_fault(chart, ins, post, goal, way))
                self.assertIsNone(way_fault(chart, list(ins), list(post), list(goal), [list(step) for step in way]))
                table, count = slow_table(chart, ins), 0
                for one, two in zip(way, way[1:]):
                    if table[posts.index(one)][posts.index(two)] == 0:
                        self.assertIn(two, slow_changes(posts, one))
                        count += 1
                self.assertEqual((way[0], way[-1], count), (post, goal, needed[number][posts.index(goal)]))
                far += count > 1
        self.assertGreater(far, 20)

    def test_from_a_post_to_itself(self):
        for _, chart, ins in some(362, 5):
            for post in posts_of(chart):
                self.assertEqual(slip_way(chart, ins, post, post), (post,))
                self.assertIsNone(way_fault(chart, ins, post, post, (post,)))
        self.assertEqual(slip_way(no_letters(), (0,), (), ()), ((),))
        self.assertEqual(changes_needed(no_letters(), (0,), ()), (0,))

    def test_examples(self):
        chart = most_of_three()
        self.assertEqual(changes_needed(chart, (), (0, 0, 0)), (0, 1, 1, 2, 1, 2, 2, 2))
        self.assertEqual(len(slip_way(chart, (), (0, 0, 0), (1, 1, 1))), 4)

    def test_faults(self):
        chart = example()

        def fault(post, goal, way):
            return way_fault(chart, (), post, goal, way)
        for way in ODD_THINGS + [[], [(0,), None], [(0,), (3,)], [(True,)], [(0,), (1,), ()], [0], "a", [[0], 2]]:
            if way not in ((1,), [1]):
                self.assertEqual(fault((0,), (0,), way), "posts", way)
        self.assertEqual(fault((0,), (0,), [1]), "posts")
        self.assertEqual(fault((0,), (2,), [(1,), (2,)]), "begin")
        self.assertEqual(fault((0,), (2,), [(1,), (1,), (0,)]), "begin")
        # A post is no change of itself: only one that sends itself stays.
        self.assertEqual(fault((1,), (2,), [(1,), (1,), (2,)]), "step")
        self.assertEqual(fault((1,), (0,), [(1,), (1,)]), "step")
        self.assertIsNone(fault((0,), (0,), [(0,), (0,), (0,)]))
        self.assertEqual(fault((0,), (1,), [(0,), (2,)]), "end")
        self.assertEqual(fault((0,), (2,), [(0,)]), "end")
        self.assertEqual(fault((1,), (2,), [(1,), (0,), (2,)]), "least")
        self.assertEqual(fault((0,), (0,), [(0,), (1,), (0,)]), "least")
        # Ways may be longer than they need be; 1 sends 2 and so this step is free.
        self.assertIsNone(fault((0,), (2,), [(0,), (0,), (1,), (2,), (2,), (2,)]))
        self.assertIsNone(fault((1,), (2,), [(1,), (2,)]))
        three = Chart([A, B], [Box(0, [A, B], [A, B], [(0, 0)] * 6)], [])
        self.assertEqual(way_fault(three, (), (0, 0), (1, 1), [(0, 0), (1, 1)]), "step")
        self.assertIsNone(way_fault(three, (), (0, 0), (1, 1), [(0, 0), (1, 0), (1, 1)]))
        self.assertIsNone(way_fault(three, (), (1, 1), (0, 0), [(1, 1), (0, 0)]))

    def test_refusals_in_order(self):
        chart = Chart([X, A], [Box(0, [X, A], [A], [(0,), (2,), (2,)] * 2)], [])
        for function in (changes_needed, lambda c, i, p: slip_way(c, i, p, 0), lambda c, i, p: way_fault(c, i, p, 0, 0)):
            with self.assertRaises(BadIns):
                function(chart, (), 0)
            for post, index in [(0, 0), ((3,), 0), ((), 0), ((0, 0), 1)]:
                with self.assertRaises(BadPost) as caught:
                    function(chart, (0,), post)
                self.assertEqual(caught.exception.index, index)
        for function in (slip_way, lambda c, i, p, g: way_fault(c, i, p, g, 0)):
            for goal, index in [(0, 0), ((3,), 0), ((), 0), ((0, 1, 1), 1)]:
                with self.assertRaises(BadPost) as caught:
                    function(chart, (0,), (0,), goal)
                self.assertEqual(caught.exception.index, index)
        for function in (least_slips, tree_costs, last_rings):
            with self.assertRaises(BadIns):
                function(chart, (2,))


class Trees(unittest.TestCase):
    def test_least_slips(self):
        for _, chart, ins in some(363, 40):
            posts, needed, rings = posts_of(chart), slow_needed(chart, ins), rings_of(chart, ins)
            table = least_slips(chart, list(ins))
            for one, ring in enumerate(rings):
                for two, other in enumerate(rings):
                    counts = {needed[posts.index(p)][posts.index(q)] for p in ring for q in other}
                    self.assertEqual(counts, {table[one][two]})
                    self.assertEqual(table[one][two] == 0, one == two)

    def test_by_going_through_all_trees(self):
        many = set()
        unlike = 0
        for _, chart, ins in some(364, 80):
            slips = least_slips(chart, ins)
            if len(slips) <= 6:
                costs = slow_costs(slips)
                many.add(len(slips))
                unlike += len(set(costs)) > 1
                self.assertEqual(tree_costs(chart, list(ins)), costs)
                self.assertEqual(last_rings(chart, list(ins)),
                                 tuple(ring for ring, cost in enumerate(costs) if cost == min(costs)))
        self.assertGreaterEqual(many, {1, 2, 3, 4})
        self.assertGreater(unlike, 5)

    def test_costs_of_any_table(self):
        # The search behind tree_costs, at tables that need lots in lots.
        rng = random.Random(365)
        for _ in range(150):
            many = rng.randint(1, 5)
            slips = [[0 if i == j else rng.randint(1, 6) for j in range(many)] for i in range(many)]
            rates = [[(j, slips[i][j], 1) for j in range(many) if j != i] for i in range(many)]
            orders, _, cost = lasting_terms(rates)
            self.assertEqual(tuple(cost + order for order in orders), slow_costs(slips))

    def test_examples(self):
        self.assertEqual(least_slips(most_of_three(), ()), ((0, 2), (2, 0)))
        self.assertEqual(tree_costs(most_of_three(), ()), (2, 2))
        self.assertEqual(last_rings(most_of_three(), ()), (0, 1))
        self.assertEqual(tree_costs(no_letters(), (0,)), (0,))
        self.assertEqual(last_rings(no_letters(), (0,)), (0,))
        self.assertEqual(least_slips(no_letters(), (0,)), ((0,),))
        self.assertEqual(tree_costs(example(), ()), (1, 1))


if __name__ == "__main__":
    unittest.main()
