import random
import unittest
from itertools import combinations

from alreadytold.boxes import Box
from alreadytold.charts import Chart, all_ins
from alreadytold.errors import BadManner, BadPool
from alreadytold.guesses import answers_of
from alreadytold.plans import fewest_looks, look_plan, plan_fault, surely_told, telling_ins, untold_lots
from samples import ODD_THINGS, fillings, random_entry
from test_guesses import MANNERS, TURNING

X, Y = ("x", 3), ("y", 2)
OUT = ("o", 3)


def table_chart(answers):
    """A chart of one in and one out that can answer just these worths at each ins; no letters, chance rows."""
    entries = [[((worth,), (1, len(lot))) for worth in lot] for lot in answers]
    wire = ("x", len(answers)) if len(answers) < 5 else None
    takes = [wire] if wire else [("x", 3), ("y", 3)]
    return Chart(takes + [OUT], [Box(0, takes, [OUT], entries)], ["o"])


def drawn_pool(rng, many, places, most=2):
    lots = [[0], [1], [2], [0, 1], [1, 2], [0, 2], [0, 1, 2]]
    return [table_chart([rng.choice([lot for lot in lots if len(lot) <= most]) for _ in range(places)]) for _ in range(many)]


def drawn_pools(seed, many):
    """Pools of charts with 2 to 4 or 9 ins, of every kind: told at once, told behind some looks, never told."""
    rng = random.Random(seed)
    for number in range(many):
        yield rng, drawn_pool(rng, rng.randint(1, 5), rng.choice([2, 3, 4, 9]), rng.choice([1, 2, 2, 3])), rng.choice(MANNERS)


def letter_pools(seed, many):
    """Pools of charts with letters, some of which have quarrels."""
    rng = random.Random(seed)
    wires = [("x", 2), ("z", 2), ("a", 3)]
    for _ in range(many):
        pool = [Chart(wires, [Box(0, wires, wires[2:], [random_entry(rng, [3], 0.3) for _ in range(12)])], ["a"])
                for _ in range(rng.randint(2, 5))]
        yield rng, pool, rng.choice(MANNERS)


def table_of(pool, manner):
    return {ins: [answers_of(chart, ins, manner) for chart in pool] for ins in all_ins(pool[0])}


def common(row, lot):
    return set.intersection(*[set(row[index]) for index in lot])


def slow_untold(pool, manner):
    """[9.9] word by word: the greatest lots with an answer in common at each ins."""
    table = table_of(pool, manner)
    lots = [lot for many in range(2, len(pool) + 1) for lot in combinations(range(len(pool)), many)
            if all(common(row, lot) for row in table.values())]
    return tuple(sorted(lot for lot in lots if not any(set(lot) < set(other) for other in lots)))


def slow_telling(pool, manner):
    """Which lots of ins leave one chart alone whatever is answered: all lots of charts that can be left are tried."""
    table = table_of(pool, manner)
    places = sorted(table)
    for many in range(len(places) + 1):
        for lot in combinations(places, many):
            left = {frozenset(range(len(pool)))}
            for ins in lot:
                left = {frozenset(index for index in some if answer in table[ins][index])
                        for some in left for index2 in some for answer in table[ins][index2]}
            if all(len(some) == 1 for some in left):
                return lot
    return None


def slow_looks(pool, manner):
    """The least number of looks, by going through all ins and answers."""
    table = table_of(pool, manner)
    whole = frozenset(range(len(pool)))

    def enough(left, looks):
        if len(left) == 1:
            return True
        if looks == 0:
            return False
        for row in table.values():
            answers = {answer for index in left for answer in row[index]}
            if all(enough(frozenset(i for i in left if answer in row[i]), looks - 1) for answer in answers):
                return True
        return False

    return next((looks for looks in range(len(pool)) if enough(whole, looks)), None)


class Plans(unittest.TestCase):
    def refuse(self, kind, told, function, *things):
        with self.assertRaises(kind) as caught:
            function(*things)
        self.assertEqual(list(vars(caught.exception).values()), [told], things)

    def test_untold_lots(self):
        kinds = {}
        for _, pool, manner in list(drawn_pools(760, 80)) + list(letter_pools(761, 30)):
            expected = slow_untold(pool, manner)
            self.assertEqual(untold_lots(pool, manner), expected)
            self.assertIs(surely_told(pool, manner), not expected)
            kinds[min(2, len(expected))] = True
            kinds[("size", max(map(len, expected), default=0))] = True
        self.assertTrue({0, 1, 2, ("size", 2), ("size", 3)} <= set(kinds), kinds)
        # (0, 1, 2) holds (0, 1), which does not stand by itself.
        pool = [table_chart(answers) for answers in ([[0, 1], [0]], [[0], [0]], [[0, 2], [0]], [[2], [0]])]
        self.assertEqual(untold_lots(pool, "slip"), ((0, 1, 2), (2, 3)))

    def test_telling_ins(self):
        kinds = {}
        for _, pool, manner in list(drawn_pools(762, 60)) + list(letter_pools(763, 30)):
            expected = slow_telling(pool, manner)
            self.assertEqual(telling_ins(pool, manner), expected)
            self.assertEqual(expected is None, bool(slow_untold(pool, manner)))
            kinds[None if expected is None else len(expected)] = True
            if expected is not None:
                table = table_of(pool, manner)
                for one, other in combinations(range(len(pool)), 2):
                    self.assertTrue(any(not common(table[ins], (one, other)) for ins in expected))
        self.assertTrue({None, 0, 1, 2, 3} <= set(kinds), kinds)

    def test_fewest_looks(self):
        kinds = {}
        for _, pool, manner in list(drawn_pools(764, 80)) + list(letter_pools(765, 30)):
            expected = slow_looks(pool, manner)
            self.assertEqual(fewest_looks(pool, manner), expected)
            self.assertTrue(expected is None or expected < len(pool))
            telling = telling_ins(pool, manner)
            # Choosing behind the answers is never worse than asking a lot of ins.
            self.assertEqual(expected is None, telling is None)
            self.assertTrue(expected is None or expected <= len(telling))
            kinds[expected] = True
        self.assertTrue({None, 0, 1, 2, 3} <= set(kinds), kinds)

    def test_choosing_behind_answers_is_better(self):
        # Each of the three looks parts one chart from the other two, but which look is needed hangs on the first.
        pool = [table_chart(answers) for answers in ([[0], [0], [0]], [[0], [1], [0]], [[1], [0], [0]], [[1], [0], [1]])]
        self.assertEqual((fewest_looks(pool, "ring"), telling_ins(pool, "ring")), (2, ((0,), (1,), (2,))))

    def walk(self, pool, manner, plan, looks):
        """Each chart of the pool is told by the plan, whatever it answers."""
        table = table_of(pool, manner)

        def check(plan, left, looks):
            if plan[0] == "told":
                self.assertEqual(left, {plan[1]})
                return
            self.assertGreater(looks, 0)
            _, ins, branches = plan
            answers = {answer for index in left for answer in table[ins][index]}
            order = sorted(answer for answer in answers if answer is not None) + [None] * (None in answers)
            self.assertEqual([answer for answer, _ in branches], order)
            for answer, further in branches:
                check(further, {index for index in left if answer in table[ins][index]}, looks - 1)

        check(plan, set(range(len(pool))), looks)

    def test_plans(self):
        deep = with_none = 0
        for _, pool, manner in list(drawn_pools(766, 60)) + list(letter_pools(767, 40)):
            plan = look_plan(pool, manner)
            looks = slow_looks(pool, manner)
            self.assertEqual(plan is None, looks is None)
            self.assertIsNone(plan_fault(pool, manner, plan))
            if plan is not None:
                self.walk(pool, manner, plan, looks)
                deep += looks > 1
                with_none += "None" in repr(plan)
        self.assertTrue(deep > 10 and with_none > 3, (deep, with_none))
        self.assertEqual(look_plan([TURNING], "story"), ("told", 0))

    def test_none_is_enough(self):
        pool = [TURNING, TURNING]
        self.assertEqual((fewest_looks(pool, "slip"), look_plan(pool, "slip"), telling_ins(pool, "slip")), (None,) * 3)
        self.assertFalse(surely_told(pool, "slip"))
        self.assertIsNone(plan_fault(pool, "slip", None))
        for plan in [("told", 0), ("told", 1), ("ask", (0,), ()), 0, (), "told", ("told", 2)]:
            self.assertEqual(plan_fault(pool, "slip", plan), "plan")

    def test_words_of_the_fault(self):
        # Chart 0 answers 0 at first, 1 and 2 answer 1; these are parted by the second ins.
        pool = [table_chart([[0], [0], [0]]), table_chart([[1], [1], [0]]), table_chart([[1], [2], [0]])]
        second = ("ask", (1,), (((1,), ("told", 1)), ((2,), ("told", 2))))
        right = ("ask", (0,), (((0,), ("told", 0)), ((1,), second)))
        fault = lambda plan: plan_fault(pool, "story", plan)
        self.assertEqual(fewest_looks(pool, "story"), 1)
        one = ("ask", (1,), tuple(((worth,), ("told", worth)) for worth in range(3)))
        self.assertIsNone(fault(one))
        self.assertEqual(fault(right), "deep")
        for thing in ODD_THINGS + ["told", ("told",), ("told", 3), ("told", -1), ("told", True), ("told", 0, 0), ("tell", 0),
                                   ("ask", (1,)), ("ask", (1,), one[2], 0), ("ask", (1,), 5), ("ask", (1,), None),
                                   ("ask", (1,), (5,)), ("ask", (1,), ((0,),)), ["told", 0], list(one), (None, 0), ([], 0),
                                   ("ask", (1,), list(one[2])), ("told", (1,), one[2]), ("asks", (1,), one[2]),
                                   ("ask", 0)]:
            self.assertEqual(fault(thing), "plan", thing)
            self.assertEqual(fault(("ask", [1], (((0,), thing),) + one[2][1:])), "plan")
        for ins in ODD_THINGS + [(3,), (0, 0), (True,), "1"]:
            if ins not in ((1,), [1]):
                self.assertEqual(fault(("ask", ins, ())), "ins")
        self.assertIsNone(fault(("ask", [1], one[2])))
        for branches in [(), one[2][:2], one[2] + ((None, ("told", 0)),), one[2][::-1], one[2][:2] + (((3,), ("told", 2)),),
                         one[2][:2] + ((None, ("told", 2)),), (((False,), ("told", 0)),) + one[2][1:],
                         ((0, ("told", 0)),) + one[2][1:], (([0], ("told", 0)),) + one[2][1:]]:
            self.assertEqual(fault(("ask", (1,), branches)), "answers", branches)
        self.assertEqual(fault(("told", 0)), "told")
        self.assertEqual(fault(("ask", (1,), (one[2][0], ((1,), ("told", 2)), one[2][2]))), "told")

    def test_fault_node_by_node(self):
        pool = [table_chart(answers) for answers in ([[0], [0], [0]], [[0], [1], [0]], [[1], [0], [0]], [[1], [0], [1]])]
        told = lambda index: ("told", index)
        left = ("ask", (1,), (((0,), told(0)), ((1,), told(1))))
        right = ("ask", (2,), (((0,), told(2)), ((1,), told(3))))
        plan = lambda one, other: ("ask", (0,), (((0,), one), ((1,), other)))
        fault = lambda one, other: plan_fault(pool, "ring", plan(one, other))
        self.assertIsNone(fault(left, right))
        # A node goes ahead of its branches, and these are asked in their order.
        self.assertEqual(fault(told(0), None), "told")
        self.assertEqual(fault(None, told(0)), "plan")
        self.assertEqual(fault(left, ("ask", (9,), (((0,), None), ((1,), None)))), "ins")
        self.assertEqual(fault(left, ("ask", (2,), (((0,), None), ((2,), None)))), "answers")
        self.assertEqual(fault(left, ("ask", (2,), (((0,), told(3)), ((1,), None)))), "told")
        self.assertEqual(fault(left, ("ask", (2,), (((0,), right), ((1,), None)))), "deep")
        self.assertEqual(fault(("ask", (1,), (((0,), told(0)), ((1,), told(0)))), None), "told")
        # Asking in vain leaves too few looks.
        self.assertEqual(fault(("ask", (2,), (((0,), left),)), right), "deep")
        # A plan may ask on where just one chart is left, if there are looks to go.
        short = [table_chart([[0], [0]]), table_chart([[0], [1]]), table_chart([[1], [0]]), table_chart([[1], [1]])]
        last = lambda index, worth: ("ask", (1,), (((worth,), told(index)),))
        self.assertEqual(fewest_looks(short[:3], "slip"), 2)
        long = ("ask", (0,), (((0,), ("ask", (1,), (((0,), told(0)), ((1,), told(1))))), ((1,), last(2, 0))))
        self.assertIsNone(plan_fault(short[:3], "slip", long))

    def test_answers_with_none_behind(self):
        keeping = Chart(TURNING.wires, [Box(0, TURNING.wires, TURNING.wires[1:], [(0,), (1,), (0,), (1,)])], ["a"])
        pool = [TURNING, keeping]
        plan = look_plan(pool, "story")
        self.assertEqual(plan, ("ask", (1,), (((0,), ("told", 1)), ((1,), ("told", 1)), (None, ("told", 0)))))
        self.assertIsNone(plan_fault(pool, "story", plan))
        self.assertEqual(plan_fault(pool, "story", ("ask", (1,), plan[2][2:] + plan[2][:2])), "answers")
        self.assertEqual(telling_ins(pool, "story"), ((1,),))
        self.assertEqual(untold_lots(pool, "ring"), ((0, 1),))

    def test_errors_in_their_order(self):
        for function, more in [(untold_lots, ()), (surely_told, ()), (telling_ins, ()), (fewest_looks, ()), (look_plan, ()),
                               (plan_fault, (5,))]:
            for pool, index in [(None, 0), ([], 0), ([TURNING] * 6, 0), ([TURNING, None], 1), ([0], 0),
                                ([TURNING, TURNING.with_outs([])], 1)]:
                self.refuse(BadPool, index, function, pool, None, *more)
            for manner in ODD_THINGS + ["stories", ["story"]]:
                self.refuse(BadManner, manner, function, [TURNING], manner, *more)

    def test_one_chart(self):
        self.assertEqual((untold_lots([TURNING], "ring"), surely_told([TURNING], "ring")), ((), True))
        self.assertEqual((telling_ins([TURNING], "ring"), fewest_looks([TURNING], "ring")), ((), 0))
        self.assertIsNone(plan_fault([TURNING], "ring", ("told", 0)))
        self.assertEqual(plan_fault([TURNING], "ring", ("ask", (0,), ())), "deep")

    def test_many_ins(self):
        rng = random.Random(768)
        takes = [("x", 4), ("y", 4), ("z", 4)]
        entries = [[(rng.randrange(3),) for _ in range(64)] for _ in range(5)]
        pool = [Chart(takes + [OUT], [Box(0, takes, [OUT], rows)], ["o"]) for rows in entries]
        self.assertEqual(len(all_ins(pool[0])), 64)
        looks = fewest_looks(pool, "story")
        self.walk(pool, "story", look_plan(pool, "story"), looks)
        lot = telling_ins(pool, "story")
        self.assertEqual(lot, slow_telling(pool, "story"))
        self.assertTrue(all(fillings([4, 4, 4]).index(ins) >= 0 for ins in lot))


if __name__ == "__main__":
    unittest.main()
