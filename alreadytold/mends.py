"""Goals of charts, and which picks of edits mend, spoil or surely keep them."""

from itertools import combinations

from alreadytold.changes import check_edits, edited_chart
from alreadytold.charts import check_ins, place_of
from alreadytold.drawing import wires_named
from alreadytold.errors import BadEdits, BadGoal, BadIns, BadWish, NoWire
from alreadytold.ratios import ONE, ZERO, compare, is_ratio, is_whole
from alreadytold.seldom import seldom
from alreadytold.spans import outs_of
from alreadytold.sureouts import sure_everywhere
from alreadytold.tellings import Sure, quarrels_of
from alreadytold.weighing import Nothing, weighed_outs
from alreadytold.wires import is_filling, is_sequence, sizes_of
from alreadytold.wishes import check_wish, is_granted

FORMS = (("no quarrel", 1), ("granted", 3), ("sure", 4), ("seldom", 4), ("weighed", 4))


def _wish_told(chart, wish):
    try:
        return (check_wish(chart, wish),)
    except BadWish:
        raise BadGoal("wish")


def _worth_told(chart, wire, worth):
    try:
        place = place_of(chart, wire)
    except NoWire:
        raise BadGoal("wire")
    if not is_whole(worth, 0, chart.wires[place][1] - 1):
        raise BadGoal("worth")
    return (wire, worth)


def _share_told(chart, outs, share):
    if not is_filling(sizes_of(wires_named(chart, chart.outs)), outs):
        raise BadGoal("outs")
    if not is_ratio(share) or compare(share, ZERO) < 0 or compare(share, ONE) > 0:
        raise BadGoal("share")
    return (tuple(outs), share)


def check_goal(chart, goal):
    """Return a goal as tuples."""
    if not is_sequence(goal, 1) or not isinstance(goal[0], str) or (goal[0], len(goal)) not in FORMS:
        raise BadGoal("goal")
    word = goal[0]
    if word == "no quarrel":
        return (word,)
    try:
        ins = check_ins(chart, goal[1])
    except BadIns:
        raise BadGoal("ins")
    if word == "granted":
        return (word, ins) + _wish_told(chart, goal[2])
    if word == "sure":
        return (word, ins) + _worth_told(chart, goal[2], goal[3])
    return (word, ins) + _share_told(chart, goal[2], goal[3])


def _reach_share(rows, outs, share):
    """Tell whether in rows (outs, share) these outs have at least this share."""
    found = [part for shown, part in rows if shown == outs]
    return compare(found[0] if found else ZERO, share) >= 0


def _is_held(chart, goal):
    """Tell whether a right goal holds."""
    if goal[0] == "no quarrel":
        return quarrels_of(chart) == ()
    word, ins = goal[0], goal[1]
    if word == "granted":
        return is_granted(chart, ins, goal[2])
    if word == "sure":
        return sure_everywhere(chart, ins, goal[2]) == Sure(goal[3])
    if word == "seldom":
        return _reach_share(outs_of(chart, ins, seldom(chart, ins)), goal[2], goal[3])
    weighed = weighed_outs(chart, ins)
    return not isinstance(weighed, Nothing) and _reach_share(weighed, goal[2], goal[3])


def goal_holds(chart, goal):
    """Tell whether a goal holds."""
    return _is_held(chart, check_goal(chart, goal))


def _holds_after(chart, edits, pick, goal):
    """Tell whether the goal is one and holds after a pick of edits, None if the pick does not fit."""
    try:
        after = edited_chart(chart, [edits[index] for index in pick])
    except BadEdits:
        return None
    try:
        goal = check_goal(after, goal)
    except BadGoal:
        return False
    return _is_held(after, goal)


def _all_picks(edits):
    """Return all picks of edits, by length, then ascending."""
    indices = list(range(len(edits)))
    return [pick for length in range(len(indices) + 1) for pick in combinations(indices, length)]


def _is_part(pick, other):
    """Tell whether another pick has all entries of a pick."""
    return [index for index in pick if index not in other] == []


def _has_part(pick, found):
    """Tell whether one of the picks found is a part of a pick."""
    return [part for part in found if _is_part(part, pick)] != []


def _least_picks(chart, pool, goal, wanted):
    """Yield the least picks that fit and after which the goal holds, or does not, as it is wanted."""
    edits = check_edits(chart, pool)
    goal = check_goal(chart, goal)
    found = []
    for pick in _all_picks(edits):
        if not _has_part(pick, found) and _holds_after(chart, edits, pick, goal) == wanted:
            found.append(pick)
            yield pick


def find_mends(chart, pool, goal):
    """Yield the least picks after which the goal holds, by length, then ascending."""
    yield from _least_picks(chart, pool, goal, True)


def find_spoilers(chart, pool, goal):
    """Yield the least picks that fit and after which the goal does not hold, by length, then ascending."""
    yield from _least_picks(chart, pool, goal, False)


def steady_picks(chart, pool, goal):
    """Yield the least picks that fit such that the goal holds after every pick that fits and has all their entries."""
    edits = check_edits(chart, pool)
    goal = check_goal(chart, goal)
    held = {pick: _holds_after(chart, edits, pick, goal) for pick in _all_picks(edits)}
    found = []
    for pick in _all_picks(edits):
        spoilt = [other for other in held if _is_part(pick, other) and held[other] is False]
        if held[pick] is not None and spoilt == [] and not _has_part(pick, found):
            found.append(pick)
            yield pick
