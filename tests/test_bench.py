import random
import unittest

from alreadytold.bench import Bench
from alreadytold.boxes import Box
from alreadytold.changes import check_edits, edited_chart
from alreadytold.charts import Chart, all_ins
from alreadytold.errors import BadEdits, BadGoal, BadIns, BadManner, NothingLeft, StillTrial
from alreadytold.guesses import answers_of
from alreadytold.mends import find_mends, find_spoilers, goal_holds, steady_picks
from samples import ODD_THINGS, small_charts
from test_edits import random_edit

X, A = ("x", 2), ("a", 2)
# At x 0 it keeps a, at x 1 it turns it over.
TURNING = Chart([X, A], [Box(0, [X, A], [A], [(0,), (1,), (1,), (0,)])], ["a"])
EXAMPLE = Chart([A], [Box(0, [A], [A], [(0,), (0,)])], ["a"])
EDIT = ("entry", 0, (1, 0), (((0,), (1, 1)),))


def state(bench):
    return bench.chart, bench.ins, bench.manner, bench.log


class Benches(unittest.TestCase):
    def refuse(self, kind, told, function, *things):
        with self.assertRaises(kind) as caught:
            function(*things)
        self.assertEqual(list(vars(caught.exception).values()), list(told), things)

    def busy(self):
        bench = Bench(TURNING)
        bench.choose_ins([1])
        bench.choose_manner("ring")
        bench.change(["entry", 0, [1, 0], [0]])
        return bench

    def test_at_first(self):
        bench = Bench(TURNING)
        self.assertEqual(state(bench), (TURNING, (0,), "story", ()))
        self.assertEqual(Bench(EXAMPLE).ins, ())
        wide = Chart([X, ("z", 3), A], [Box(0, [], [A], [(0,)])], [])
        self.assertEqual(Bench(wide).ins, (0, 0))

    def test_deeds(self):
        bench = Bench(TURNING)
        self.assertIsNone(bench.choose_ins([1]))
        self.assertEqual(state(bench), (TURNING, (1,), "story", (("ins", (1,)),)))
        self.assertIsNone(bench.choose_manner("slip"))
        self.assertEqual(state(bench), (TURNING, (1,), "slip", (("ins", (1,)), ("manner", "slip"))))
        self.assertIsNone(bench.change(["entry", 0, [1, 0], [0]]))
        self.assertEqual(state(bench), (edited_chart(TURNING, [EDIT]), (1,), "slip",
                                        (("ins", (1,)), ("manner", "slip"), EDIT)))
        bench.change(["day", 0, 4])
        self.assertEqual(bench.log[3], ("day", 0, 4))
        self.assertEqual(bench.chart.boxes[0].day, 4)

    def test_edits_are_on_the_chart_now(self):
        wires = [("x", 2), ("a", 2), ("c", 2)]
        bench = Bench(Chart(wires, [Box(0, wires[:2], [wires[1]], [(0,), (1,), (1,), (0,)])], []))
        bench.change(("take", 0, "x", "c"))
        self.refuse(BadEdits, (0, "wire"), bench.change, ("take", 0, "x", "c"))
        bench.change(("take", 0, "c", "x"))
        self.assertEqual(len(bench.log), 2)

    def test_deeds_that_change_nothing(self):
        bench = Bench(TURNING)
        bench.choose_ins((0,))
        bench.choose_manner("story")
        bench.change(("day", 0, 0))
        bench.change(("entry", 0, (0, 0), (0,)))
        self.assertEqual(bench.chart, TURNING)
        self.assertEqual(bench.log, (("ins", (0,)), ("manner", "story"), ("day", 0, 0),
                                     ("entry", 0, (0, 0), (((0,), (1, 1)),))))

    def test_refused_deeds(self):
        bench = self.busy()
        before = state(bench)
        for ins, index in [(None, 0), ((), 0), ((2,), 0), ((0, 0), 1), ((True,), 0)]:
            self.refuse(BadIns, (index,), bench.choose_ins, ins)
        for manner in ODD_THINGS + ["Ring", ["ring"]]:
            self.refuse(BadManner, (manner,), bench.choose_manner, manner)
        for edit, what in [(None, "edit"), (("day", 0), "edit"), ([("day", 0, 0)], "edit"), (("day", 1, 0), "box"),
                           (("day", 0, 10), "day"), (("entry", 0, (0,), (0,)), "filling"), (("entry", 0, (0, 0), (2,)), "entry"),
                           (("take", 0, "b", "a"), "wire"), (("take", 0, "x", "a"), "other")]:
            self.refuse(BadEdits, (0, what), bench.change, edit)
        wires = [(name, 4) for name in "abcd"]
        boxes = [Box(0, [wire], [wire], [(0,)] * 4) for wire in wires[:3]] + [Box(9, [wires[0]], [wires[3]], [(0,)] * 4)]
        other = Bench(Chart(wires, boxes, []))
        self.refuse(BadEdits, (0, "chart"), other.change, ("take", 3, "a", "d"))
        self.assertEqual(other.log, ())
        self.assertEqual(state(bench), before)

    def test_nothing_that_is_passed_in_is_kept(self):
        bench = Bench(TURNING)
        ins, edit = [1], ["entry", 0, [1, 0], [0]]
        bench.choose_ins(ins)
        bench.change(edit)
        ins[0] = 0
        edit[2][0] = 0
        self.assertEqual((bench.ins, bench.log), ((1,), (("ins", (1,)), EDIT)))

    def test_ask_and_holds(self):
        for rng, chart, _ in small_charts(800, 30):
            bench = Bench(chart)
            for _ in range(4):
                bench.choose_ins(rng.choice(all_ins(chart)))
                bench.choose_manner(rng.choice(["story", "ring", "slip"]))
                try:
                    bench.change(random_edit(rng, chart))
                except BadEdits:
                    pass
                self.assertEqual(bench.ask(), answers_of(bench.chart, bench.ins, bench.manner))
                for goal in [("no quarrel",), ("granted", bench.ins, ("still",))]:
                    self.assertIs(bench.holds(goal), goal_holds(bench.chart, goal))
        bench = Bench(TURNING)
        bench.choose_ins([1])
        self.assertEqual(bench.ask(), (None,))
        self.refuse(BadGoal, ("goal",), bench.holds, None)
        self.refuse(BadGoal, ("ins",), bench.holds, ("sure", (5,), "a", 0))
        self.assertEqual(len(bench.log), 1)

    def test_take_back(self):
        bench = self.busy()
        deeds = bench.log
        self.assertEqual(bench.take_back(), (EDIT,))
        self.assertEqual(state(bench), (TURNING, (1,), "ring", deeds[:2]))
        self.assertEqual(bench.take_back(many=2), deeds[:2])
        self.assertEqual(state(bench), (TURNING, (0,), "story", ()))
        bench = self.busy()
        self.assertEqual(bench.take_back(3), deeds)
        self.assertEqual(state(bench), (TURNING, (0,), "story", ()))
        bench = self.busy()
        self.assertEqual(bench.take_back(2), deeds[1:])
        self.assertEqual(state(bench), (TURNING, (1,), "story", deeds[:1]))

    def test_wrong_numbers(self):
        bench = self.busy()
        before = state(bench)
        for many in [thing for thing in ODD_THINGS if not (type(thing) is int and 1 <= thing <= 3)] + [4, 0, -1]:
            self.refuse(NothingLeft, (many,), bench.take_back, many)
        self.assertEqual(state(bench), before)
        self.refuse(NothingLeft, (1,), Bench(TURNING).take_back)

    def test_drawn_deeds(self):
        rng = random.Random(801)
        for _, chart, _ in small_charts(801, 20):
            bench = Bench(chart)
            states = [state(bench)]
            for _ in range(12):
                if rng.random() < 0.3 and len(states) > 1:
                    many = rng.randint(1, len(states) - 1)
                    taken = bench.take_back(many)
                    self.assertEqual(taken, states[-1][3][-many:])
                    states = states[:-many]
                else:
                    try:
                        deed = random_edit(rng, bench.chart)
                        [lambda: bench.choose_ins(rng.choice(all_ins(chart))), lambda: bench.choose_manner("slip"),
                         lambda: bench.change(deed)][rng.randrange(3)]()
                    except BadEdits:
                        continue
                    states.append(state(bench))
                self.assertEqual(state(bench), states[-1])


class Trials(unittest.TestCase):
    refuse = Benches.refuse
    busy = Benches.busy

    def test_a_trial_that_ends_well(self):
        bench = self.busy()
        before = state(bench)
        marker = object()

        def action(one):
            self.assertIs(one, bench)
            self.assertEqual(state(one), before)
            one.change(("day", 0, 5))
            one.choose_ins((0,))
            one.choose_manner("slip")
            self.assertEqual(one.log[3:], (("day", 0, 5), ("ins", (0,)), ("manner", "slip")))
            self.assertEqual(one.ask(), answers_of(one.chart, (0,), "slip"))
            return marker

        self.assertIs(bench.trying(action), marker)
        self.assertEqual(state(bench), before)
        self.assertIsNone(bench.trying(lambda one: None))

    def test_a_trial_that_ends_by_an_error(self):
        for error in (BadIns(3), KeyError("x"), ZeroDivisionError(), KeyboardInterrupt()):
            bench = self.busy()
            before = state(bench)

            def action(one):
                one.change(("day", 0, 5))
                raise error

            with self.assertRaises(type(error)) as caught:
                bench.trying(action)
            self.assertIs(caught.exception, error)
            self.assertEqual(state(bench), before)
            # The trial is over: another one may begin.
            self.assertEqual(bench.trying(lambda one: one.log), before[3])
        bench = self.busy()
        self.refuse(BadIns, (0,), bench.trying, lambda one: one.choose_ins((7,)))
        self.assertEqual(state(bench), before)

    def test_a_trial_within_a_trial(self):
        bench = self.busy()
        called = []

        def action(one):
            one.choose_ins((0,))
            self.refuse(StillTrial, (4,), one.trying, called.append)
            self.refuse(StillTrial, (4,), one.trying, None)
            one.take_back()
            self.refuse(StillTrial, (3,), one.trying, called.append)
            return len(one.log)

        self.assertEqual(bench.trying(action), 3)
        self.assertEqual(called, [])
        self.assertEqual(len(bench.log), 3)
        empty = Bench(TURNING)
        self.refuse(StillTrial, (0,), empty.trying, lambda one: one.trying(called.append))
        self.assertEqual(empty.trying(lambda one: "again"), "again")

    def test_taking_back_within_a_trial(self):
        bench = self.busy()
        before = state(bench)

        def action(one):
            for many in (1, 3, 0, None, True):
                self.refuse(NothingLeft, (many,), one.take_back, many)
            one.choose_ins((0,))
            one.choose_manner("story")
            self.refuse(NothingLeft, (3,), one.take_back, 3)
            self.assertEqual(one.take_back(), (("manner", "story"),))
            self.assertEqual((one.ins, one.manner), ((0,), "ring"))
            self.assertEqual(one.take_back(1), (("ins", (0,)),))
            self.assertEqual(state(one), before)
            self.refuse(NothingLeft, (1,), one.take_back)
            one.change(("day", 0, 1))
            one.change(("day", 0, 2))
            return one.take_back(2)

        self.assertEqual(bench.trying(action), (("day", 0, 1), ("day", 0, 2)))
        self.assertEqual(state(bench), before)
        # Behind the trial all deeds can be taken back again.
        self.assertEqual(len(bench.take_back(3)), 3)

    def test_benches_stand_apart(self):
        one, other = self.busy(), self.busy()

        def action(bench):
            # The other bench is in no trial.
            other.choose_ins((0,))
            self.assertEqual(other.trying(lambda inner: len(inner.log)), 4)
            return other.take_back(2)

        self.assertEqual(one.trying(action), (EDIT, ("ins", (0,))))
        self.assertEqual((len(one.log), len(other.log)), (3, 2))

    def test_example(self):
        pool = [("entry", 0, (0,), (1,)), ("entry", 0, (1,), (1,))]
        goal = ("no quarrel",)
        bench = Bench(EXAMPLE)
        self.assertEqual(bench.ask(), ((0,),))
        bench.change(pool[0])
        self.assertFalse(bench.holds(goal))
        self.assertEqual(bench.ask(), (None,))
        bench.change(pool[1])
        self.assertTrue(bench.holds(goal))
        self.assertEqual(bench.ask(), ((1,),))
        self.assertEqual(bench.log, check_edits(EXAMPLE, pool))
        self.assertEqual([list(find(EXAMPLE, pool, goal)) for find in (find_mends, find_spoilers, steady_picks)],
                         [[()], [(0,)], [(1,)]])


if __name__ == "__main__":
    unittest.main()
