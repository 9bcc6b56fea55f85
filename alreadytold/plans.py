"""Asking which chart of a pool it is. Lots of charts are kept as the bits of a whole number."""

from itertools import combinations

from alreadytold.charts import all_ins, check_ins
from alreadytold.errors import BadIns
from alreadytold.guesses import answers_of, check_manner, check_pool
from alreadytold.ratios import is_whole


class Answers:
    """What the charts of a pool answer: for each ins a row of couples (answer, the charts that can give it)."""

    def __init__(self, pool, manner):
        self.pool = check_pool(pool)
        manner = check_manner(manner)
        self.each_ins = all_ins(self.pool[0])
        self.rows = tuple([_answer_row(self.pool, ins, manner) for ins in self.each_ins])
        self.whole = (1 << len(self.pool)) - 1


def _answer_row(pool, ins, manner):
    """Return couples (answer, lot of the charts that can give it), ascending, None behind all."""
    lots = {}
    for index, chart in enumerate(pool):
        for answer in answers_of(chart, ins, manner):
            lots[answer] = lots.get(answer, 0) | (1 << index)
    order = sorted([answer for answer in lots if answer is not None])
    if None in lots:
        order.append(None)
    return tuple([(answer, lots[answer]) for answer in order])


def _branches(row, left):
    """Return couples (answer, charts then left) for each answer of the charts left."""
    return [(answer, lot & left) for answer, lot in row if lot & left != 0]


def _is_shared(row, lot):
    """Tell whether all charts of a lot have an answer in common."""
    return lot in [left for _, left in _branches(row, lot)]


def _are_left(answers, lot):
    """Tell whether all charts of a lot have an answer in common at each ins."""
    return [row for row in answers.rows if not _is_shared(row, lot)] == []


def _bits_of(indices):
    return sum([1 << index for index in indices])


def untold_lots(pool, manner):
    """Return, ascending, the greatest lots of two charts or more that may all be left for ever."""
    answers = Answers(pool, manner)
    indices = list(range(len(answers.pool)))
    found = []
    for many in range(len(indices), 1, -1):
        for lot in combinations(indices, many):
            within = [other for other in found if [index for index in lot if index not in other] == []]
            if within == [] and _are_left(answers, _bits_of(lot)):
                found.append(lot)
    return tuple(sorted(found))


def surely_told(pool, manner):
    """Return whether no lot of charts may be left for ever."""
    return untold_lots(pool, manner) == ()


def _parted(answers):
    """Return all couples of charts, and for each ins those that it parts, as bits of their numbers."""
    indices = list(range(len(answers.pool)))
    couples = [_bits_of(couple) for couple in combinations(indices, 2)]
    rows = [_bits_of([number for number, couple in enumerate(couples) if not _is_shared(row, couple)])
            for row in answers.rows]
    return (1 << len(couples)) - 1, rows


def _needs(whole, parted):
    """Return for each place, and one behind all, how few of the rows from it on part each lot of couples."""
    # Nothing is left to part without rows only for no couples at all.
    needs = [[0 if lot == 0 else None for lot in range(whole + 1)]]
    for row in reversed(parted):
        after = needs[-1]
        before = []
        for lot in range(whole + 1):
            taken = after[lot & ~row]
            least = [many for many in (after[lot], None if taken is None else taken + 1) if many is not None]
            before.append(min(least, default=None))
        needs.append(before)
    return list(reversed(needs))


def telling_ins(pool, manner):
    """Return the fewest ins that leave one chart alone when each is asked once, None if none do."""
    answers = Answers(pool, manner)
    whole, parted = _parted(answers)
    needs = _needs(whole, parted)
    if needs[0][whole] is None:
        return None
    chosen = []
    left = whole
    for place, row in enumerate(parted):
        # The first ins that the fewest can begin with makes the first of such lots.
        if needs[place + 1][left & ~row] + 1 == needs[place][left]:
            chosen.append(answers.each_ins[place])
            left = left & ~row
    return tuple(chosen)


def _looks_from(row, best, lot):
    """Return how many looks are enough for a lot if this row is asked first, None if no number is."""
    lefts = [left for _, left in _branches(row, lot)]
    # An answer that leaves the whole lot may come for ever.
    if lot in lefts or [left for left in lefts if best[left] is None] != []:
        return None
    return 1 + max([best[left] for left in lefts])


def _enough_looks(answers):
    """Return for each lot of charts how many looks are enough to tell them apart, None if no number is."""
    best = []
    for lot in range(answers.whole + 1):
        if lot & (lot - 1) == 0:
            best.append(0)
        else:
            numbers = [_looks_from(row, best, lot) for row in answers.rows]
            best.append(min([number for number in numbers if number is not None], default=None))
    return best


def fewest_looks(pool, manner):
    """Return the least number of looks that is always enough if each ins is chosen after the answers ahead, or None."""
    answers = Answers(pool, manner)
    return _enough_looks(answers)[answers.whole]


def _plan_asking(answers, best, plans, lot):
    """Return a plan for a lot of several charts by the plans for lesser lots."""
    place = [_looks_from(row, best, lot) for row in answers.rows].index(best[lot])
    branches = [(answer, plans[left]) for answer, left in _branches(answers.rows[place], lot)]
    return ("ask", answers.each_ins[place], tuple(branches))


def look_plan(pool, manner):
    """Return a plan that ends with the true chart behind the fewest looks, None if no number is enough."""
    answers = Answers(pool, manner)
    best = _enough_looks(answers)
    plans = [None]
    for lot in range(1, answers.whole + 1):
        if best[lot] == 0:
            plans.append(("told", lot.bit_length() - 1))
        else:
            plans.append(None if best[lot] is None else _plan_asking(answers, best, plans, lot))
    return plans[answers.whole]


def _is_node(plan, many):
    """Tell whether a thing is a plan by its form, whatever stands in its branches; there are so many charts."""
    if not isinstance(plan, tuple) or len(plan) not in (2, 3):
        return False
    if len(plan) == 2:
        return plan[0] == "told" and is_whole(plan[1], 0, many - 1)
    if plan[0] != "ask" or not isinstance(plan[2], tuple):
        return False
    return [branch for branch in plan[2] if not isinstance(branch, tuple) or len(branch) != 2] == []


def _is_answer(thing, answer):
    """Tell whether a thing is this answer; True and False are no worths."""
    if answer is None:
        return thing is None
    return thing == answer and [worth for worth in thing if not is_whole(worth)] == []


def _node_fault(answers, plan, left, looks):
    """Return the first word that applies to a plan for the charts left with so many looks to go, or None."""
    if not _is_node(plan, len(answers.pool)):
        return "plan"
    if plan[0] == "told":
        return None if left == 1 << plan[1] else "told"
    if looks == 0:
        return "deep"
    try:
        ins = check_ins(answers.pool[0], plan[1])
    except BadIns:
        return "ins"
    branches = _branches(answers.rows[answers.each_ins.index(ins)], left)
    if len(branches) != len(plan[2]):
        return "answers"
    for (thing, _), (answer, _) in zip(plan[2], branches):
        if not _is_answer(thing, answer):
            return "answers"
    for (_, further), (_, lot) in zip(plan[2], branches):
        fault = _node_fault(answers, further, lot, looks - 1)
        if fault is not None:
            return fault
    return None


def plan_fault(pool, manner, plan):
    """Return None for a plan that ends with the true chart behind the fewest looks, otherwise the first word."""
    answers = Answers(pool, manner)
    looks = _enough_looks(answers)[answers.whole]
    if looks is None:
        return None if plan is None else "plan"
    return _node_fault(answers, plan, answers.whole, looks)
