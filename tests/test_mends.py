import unittest
from itertools import combinations

from alreadytold.boxes import Box
from alreadytold.changes import edited_chart
from alreadytold.charts import Chart, all_ins, posts_of
from alreadytold.errors import BadEdits, BadGoal, LetterError
from alreadytold.mends import check_goal, find_mends, find_spoilers, goal_holds, steady_picks
from alreadytold.rings import rings_of
from alreadytold.seldom import seldom
from alreadytold.spans import outs_of
from alreadytold.stories import count_stories
from alreadytold.sureouts import sure_everywhere
from alreadytold.tellings import Sure
from alreadytold.weighing import Nothing, weighed_outs
from alreadytold.wishes import is_granted
from samples import ODD_THINGS, fraction, identity_box, ratio, ringed_charts, small_charts
from test_edits import random_edit

X, A, B = ("x", 2), ("a", 2), ("b", 3)
HALF = (1, 2)
# At x 0 it keeps a, at x 1 it turns it over; b is made of a.
CHART = Chart([X, A, B], [Box(0, [X, A], [A], [(0,), (1,), (1,), (0,)]), Box(1, [A], [B], [(0,), (2,)])], ["b", "x"])
EXAMPLE = Chart([A], [Box(0, [A], [A], [(0,), (0,)])], ["a"])
EXAMPLE_POOL = [("entry", 0, (0,), (1,)), ("entry", 0, (1,), (1,))]


def random_goal(rng, chart, ins):
    word = rng.choice(["no quarrel", "granted", "sure", "seldom", "weighed"])
    if word == "no quarrel":
        return (word,)
    if word == "granted":
        posts = posts_of(chart)
        lot = tuple(sorted(rng.sample(posts, rng.randint(1, len(posts)))))
        return (word, ins, rng.choice([("still",), ("one ring",), ("story",), ("lot", lot),
                                       ("outs", tuple(rng.choice([None, 0]) for _ in chart.outs))]))
    wire, size = rng.choice(chart.wires)
    if word == "sure":
        return (word, ins, wire, rng.randrange(size))
    outs = tuple(rng.randrange(dict(chart.wires)[name]) for name in chart.outs)
    return (word, ins, outs, rng.choice([(0, 1), (1, 3), HALF, (1, 1)]))


def slow_holds(chart, goal):
    """[10.4] word by word."""
    if goal[0] == "no quarrel":
        return all(count_stories(chart, ins) for ins in all_ins(chart))
    if goal[0] == "granted":
        return is_granted(chart, goal[1], goal[2])
    if goal[0] == "sure":
        return sure_everywhere(chart, goal[1], goal[2]) == Sure(goal[3])
    rows = outs_of(chart, goal[1], seldom(chart, goal[1])) if goal[0] == "seldom" else weighed_outs(chart, goal[1])
    if rows == Nothing():
        return False
    return fraction(dict(rows).get(goal[2], (0, 1))) >= fraction(goal[3])


def slow_states(chart, pool, goal):
    """[10.5]: for each pick that fits whether the goal holds after it."""
    states = {}
    for length in range(len(pool) + 1):
        for pick in combinations(range(len(pool)), length):
            try:
                after = edited_chart(chart, [pool[index] for index in pick])
            except LetterError:
                continue
            try:
                check_goal(after, goal)
            except LetterError:
                states[pick] = False
                continue
            states[pick] = slow_holds(after, goal)
    return states


def least_of(picks):
    return [pick for pick in picks if not any(set(other) < set(pick) for other in picks)]


class Goals(unittest.TestCase):
    def refuse(self, kind, told, function, *things):
        with self.assertRaises(kind) as caught:
            result = function(*things)
            list(result)
        self.assertEqual(list(vars(caught.exception).values()), list(told), things)

    def bad(self, what, goal, chart=CHART):
        for function in (check_goal, goal_holds):
            self.refuse(BadGoal, (what,), function, chart, goal)
        for function in (find_mends, find_spoilers, steady_picks):
            self.refuse(BadGoal, (what,), function, chart, [("day", 0, 0)], goal)

    def test_each_form_as_tuples(self):
        for told, goal in [((["no quarrel"]), ("no quarrel",)),
                           (["granted", [1], ["lot", [[1], [0], [1]]]], ("granted", (1,), ("lot", ((0,), (1,))))),
                           (("granted", (0,), ["outs", [None, 1]]), ("granted", (0,), ("outs", (None, 1)))),
                           (["sure", [0], "b", 2], ("sure", (0,), "b", 2)),
                           (["seldom", [1], [2, 1], HALF], ("seldom", (1,), (2, 1), HALF)),
                           (("weighed", (1,), [2, 1], (0, 1)), ("weighed", (1,), (2, 1), (0, 1))),
                           (("weighed", (1,), [2, 1], (1, 1)), ("weighed", (1,), (2, 1), (1, 1)))]:
            self.assertEqual(check_goal(CHART, told), goal)

    def test_bad_goals(self):
        for goal in ODD_THINGS + [("quarrel",), ("no quarrel", None), ("granted", (0,)), ("granted", (0,), ("still",), 0),
                                  ("sure", (0,), "a"), ("seldom", (0,), (0, 0)), ("weighed", (0,), (0, 0), HALF, 0), (None,),
                                  ("No quarrel",), "no quarrel", {"no quarrel": 0}, (["sure"], (0,), "a", 0), ("sure",)]:
            self.bad("goal", goal)
        for ins in ODD_THINGS + [(2,), (0, 0), (True,)]:
            if ins not in ((1,), [1]):
                for goal in [("granted", ins, None), ("sure", ins, None, None), ("seldom", ins, None, None),
                             ("weighed", ins, None, None)]:
                    self.bad("ins", goal)
        for wish in ODD_THINGS + [("stills",), ("outs", (0,)), ("lot", [(2,)]), ("lot", None), ("outs", (3, 0))]:
            self.bad("wish", ("granted", (0,), wish))
        for wire in ODD_THINGS + ["c", ["a"]]:
            if wire != "a":
                self.bad("wire", ("sure", (0,), wire, None))
        for worth in [thing for thing in ODD_THINGS if not (type(thing) is int and 0 <= thing < 3)] + [3]:
            self.bad("worth", ("sure", (0,), "b", worth))
        self.bad("worth", ("sure", (0,), "a", 2))
        for word in ("seldom", "weighed"):
            for outs in ODD_THINGS + [(3, 0), (0, 2), (0, 0, 0), (True, 0), "00"]:
                self.bad("outs", (word, (0,), outs, None))
            for share in ODD_THINGS + [(3, 2), (-1, 2), (2, 4), [1, 2], (1, 2, 3)]:
                if share != (1, 2):
                    self.bad("share", (word, (0,), (0, 0), share))

    def test_holds(self):
        found = {}
        for rng, chart, ins in list(small_charts(790, 120)) + list(ringed_charts(790, 60)):
            goal = random_goal(rng, chart, ins)
            expected = slow_holds(chart, goal)
            self.assertIs(goal_holds(chart, [list(part) if isinstance(part, tuple) and k == 1 else part
                                             for k, part in enumerate(goal)]), expected)
            found[(goal[0], expected)] = True
        self.assertEqual(len(found), 10, found)

    def test_examples(self):
        self.assertFalse(goal_holds(CHART, ("no quarrel",)))
        self.assertTrue(goal_holds(EXAMPLE, ("no quarrel",)))
        self.assertTrue(goal_holds(CHART, ("seldom", (1,), (2, 1), HALF)))
        self.assertFalse(goal_holds(CHART, ("seldom", (1,), (2, 1), (50000001, 100000000))))
        self.assertTrue(goal_holds(CHART, ("seldom", (1,), (1, 1), (0, 1))))
        self.assertTrue(goal_holds(CHART, ("weighed", (0,), (1, 0), (0, 1))))
        self.assertTrue(goal_holds(CHART, ("weighed", (0,), (2, 0), HALF)))
        # Without a story no share is reached, not even 0.
        self.assertFalse(goal_holds(CHART, ("weighed", (1,), (2, 1), (0, 1))))
        self.assertTrue(goal_holds(EXAMPLE, ("sure", (), "a", 0)))
        self.assertFalse(goal_holds(EXAMPLE, ("sure", (), "a", 1)))


class Picks(unittest.TestCase):
    refuse = Goals.refuse

    def test_example(self):
        goal = ("no quarrel",)
        self.assertEqual(list(find_mends(EXAMPLE, EXAMPLE_POOL, goal)), [()])
        self.assertEqual(list(find_spoilers(EXAMPLE, EXAMPLE_POOL, goal)), [(0,)])
        self.assertEqual(list(steady_picks(EXAMPLE, EXAMPLE_POOL, goal)), [(1,)])

    def check_picks(self, chart, pool, goal, seen):
        states = slow_states(chart, pool, goal)
        mends = least_of([pick for pick, held in states.items() if held])
        spoilers = least_of([pick for pick, held in states.items() if not held])
        steady = least_of([pick for pick in states if all(states[other] for other in states if set(pick) <= set(other))])
        self.assertEqual(list(find_mends(chart, pool, goal)), mends)
        self.assertEqual(list(find_spoilers(chart, pool, goal)), spoilers)
        self.assertEqual(list(steady_picks(chart, pool, goal)), steady)
        for name, picks in [("mends", mends), ("spoilers", spoilers), ("steady", steady)]:
            seen[(name, max(map(len, picks), default=None))] = True
            seen[(name, "several")] = len(picks) > 1 or seen.get((name, "several"), False)
        seen[("unfit", len(states) < 2 ** len(pool))] = True

    def test_against_all_picks(self):
        seen = {}
        for rng, chart, ins in list(small_charts(791, 100)):
            pool = []
            for _ in range(30):
                edit = random_edit(rng, chart)
                try:
                    edited_chart(chart, [edit])
                except BadEdits:
                    continue
                pool.append(edit)
                if len(pool) == 4:
                    break
            if pool:
                self.check_picks(chart, pool, random_goal(rng, chart, ins), seen)
        self.assertIn(("unfit", True), seen)
        for rng, chart, ins in ringed_charts(792, 100):
            posts = posts_of(chart)
            pool = [("entry", 0, ins + post, rng.choice([post, rng.choice(posts)]))
                    for post in rng.sample(posts, min(len(posts), rng.randint(2, 5)))]
            goals = [("granted", ins, (word,)) for word in ("one ring", "still", "story")]
            goals += [("granted", ins, ("lot", posts[:2])), ("sure", ins, "a", 0), random_goal(rng, chart, ins)]
            for goal in goals:
                self.check_picks(chart, pool, goal, seen)
        for name in ("mends", "spoilers", "steady"):
            self.assertTrue({(name, None), (name, 0), (name, 1), (name, 2)} <= set(seen), seen)
            self.assertTrue(seen[(name, "several")])

    def test_edits_that_cannot_be_done_together(self):
        # Either take alone can be exchanged for c, both cannot.
        wires = [("x", 2), ("a", 2), ("c", 2)]
        chart = Chart(wires, [Box(0, [wires[0], wires[1]], [wires[1]], [(0,), (1,), (1,), (0,)])], ["a"])
        pool = [("take", 0, "x", "c"), ("take", 0, "a", "c"), ("entry", 0, (1, 0), (0,))]
        for goal in (("no quarrel",), ("granted", (1, 0), ("still",)), ("sure", (0, 1), "a", 1)):
            states = slow_states(chart, pool, goal)
            self.assertNotIn((0, 1), states)
            self.assertNotIn((0, 1, 2), states)
            self.assertEqual(list(find_mends(chart, pool, goal)), least_of([pick for pick in states if states[pick]]))
            self.assertEqual(list(find_spoilers(chart, pool, goal)), least_of([pick for pick in states if not states[pick]]))
        # The order of the pool counts: behind the first edit the second one finds no such take.
        pool = [("take", 0, "x", "c"), ("take", 0, "x", "c")]
        self.assertEqual(sorted(slow_states(chart, pool, ("no quarrel",))), [(), (0,), (1,)])

    def test_steady_picks_pass_over_what_does_not_fit(self):
        # After (0,) the goal holds, and (0, 1), after which it would not, does not fit.
        wires = [("x", 2), ("a", 2), ("c", 2)]
        chart = Chart(wires, [Box(0, [wires[0], wires[1]], [wires[1]], [(0,), (1,), (1,), (0,)])], ["a"])
        pool = [("take", 0, "a", "c"), ("take", 0, "x", "c")]
        self.assertEqual(list(steady_picks(chart, pool, ("no quarrel",))), [(0,)])
        self.assertEqual(list(find_spoilers(chart, pool, ("no quarrel",))), [()])
        self.assertEqual(list(find_mends(chart, pool, ("no quarrel",))), [(0,)])

    def test_a_goal_that_is_none_any_more(self):
        # On later days b is no letter, so the lot of posts is none.
        boxes = [identity_box(A), Box(0, [], [B], [(1,)]), Box(0, [B], [("c", 2)], [(0,)] * 3)]
        chart = Chart([A, B, ("c", 2)], boxes, [])
        self.assertEqual(chart.letters, ("a", "b"))
        goal = ("granted", (), ("lot", [(0, 1), (1, 1)]))
        pool = [("day", 2, 5), ("day", 1, 5), ("entry", 0, (0,), (1,))]
        self.assertTrue(goal_holds(chart, goal))
        self.assertEqual(edited_chart(chart, pool[:1]).letters, ("a",))
        self.assertEqual(list(find_mends(chart, pool, goal)), [()])
        self.assertEqual(list(find_spoilers(chart, pool, goal)), [(0,)])
        self.assertEqual(list(steady_picks(chart, pool, goal)), [(1,)])
        # The same lot of other letters is one again.
        self.assertEqual(rings_of(edited_chart(chart, pool[:2]), ()), rings_of(chart, ()))

    def test_errors_in_their_order(self):
        for function in (find_mends, find_spoilers, steady_picks):
            for pool, index, what in [(None, 0, "many"), ([], 0, "many"), ([("day", 0, 0)] * 6, 0, "many"),
                                      ([("day", 0, 0), ("day", 0, 10)], 1, "day"), ([("day", 0, 0), None], 1, "edit"),
                                      ([("take", 0, "a", "a")], 0, "other")]:
                self.refuse(BadEdits, (index, what), function, EXAMPLE, pool, None)
            self.refuse(BadGoal, ("goal",), function, EXAMPLE, EXAMPLE_POOL, None)
            self.refuse(BadGoal, ("wire",), function, EXAMPLE, EXAMPLE_POOL, ("sure", (), "b", 0))

    def test_generators(self):
        for function in (find_mends, find_spoilers, steady_picks):
            found = function(EXAMPLE, EXAMPLE_POOL, ("no quarrel",))
            self.assertIs(iter(found), found)
            self.assertEqual(type(next(found)), tuple)

    def test_shares(self):
        # Half of the weighed stories show 1 at first; three quarters after one edit, all after the other.
        halves = [((0,), HALF), ((1,), HALF)]
        chart = Chart([A], [Box(0, [], [A], [halves])], ["a"])
        pool = [("entry", 0, (), [((0,), (1, 4)), ((1,), (3, 4))]), ("entry", 0, (), (1,))]
        for word in ("weighed", "seldom"):
            for share, picks in [(HALF, [()]), ((3, 4), [(0,), (1,)]), (ratio(1), [(1,)]), ((0, 1), [()])]:
                self.assertEqual(list(find_mends(chart, pool, (word, (), (1,), share))), picks)
        self.assertEqual(list(steady_picks(chart, pool, ("seldom", (), (1,), (3, 4)))), [(0,), (1,)])


if __name__ == "__main__":
    unittest.main()
