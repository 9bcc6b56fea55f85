"""Ways from post to post by turns, which are free, and changes of one letter, which count."""

from alreadytold.charts import check_ins, check_post
from alreadytold.errors import BadPost
from alreadytold.leading import lasting_terms
from alreadytold.lots import closed_of
from alreadytold.rings import moves_of_posts, posts_numbered
from alreadytold.single import changed_numbers
from alreadytold.wires import filling_number, is_sequence


def _spread(begun, leads, counts, before, count):
    """Count all that leads come to from where it begins and that is not counted yet; return it in order."""
    queue = list(begun)
    place = 0
    while place < len(queue):
        here = queue[place]
        place += 1
        for goal in leads[here]:
            if counts[goal] is None:
                counts[goal] = count
                before[goal] = here
                queue.append(goal)
    return queue


def _counted_ways(moves, changed, start):
    """Return for each number the least count of a way from the start, and the number ahead of it on one."""
    counts = [None for _ in moves]
    before = [None for _ in moves]
    counts[start] = 0
    count = 0
    reached = _spread([start], moves, counts, before, count)
    while reached:
        count += 1
        further = []
        for number in reached:
            for goal in changed[number]:
                if counts[goal] is None:
                    counts[goal] = count
                    before[goal] = number
                    further.append(goal)
        reached = _spread(further, moves, counts, before, count)
    return counts, before


def changes_needed(chart, ins, post):
    """Return for each post the least count of a way from the told post to it."""
    ins = check_ins(chart, ins)
    number = filling_number(chart.letter_sizes, check_post(chart, post))
    counts, _ = _counted_ways(moves_of_posts(chart, ins), changed_numbers(chart), number)
    return tuple(counts)


def slip_way(chart, ins, post, goal):
    """Return a way of the least count from a post to a goal."""
    ins = check_ins(chart, ins)
    start = filling_number(chart.letter_sizes, check_post(chart, post))
    here = filling_number(chart.letter_sizes, check_post(chart, goal))
    _, before = _counted_ways(moves_of_posts(chart, ins), changed_numbers(chart), start)
    way = [here]
    while here != start:
        here = before[here]
        way.append(here)
    return posts_numbered(chart, list(reversed(way)))


def _way_told(chart, way):
    """Return the numbers of the posts of a way, None if it is no sequence of posts."""
    if not is_sequence(way, 1):
        return None
    numbers = []
    for thing in way:
        try:
            numbers.append(filling_number(chart.letter_sizes, check_post(chart, thing)))
        except BadPost:
            return None
    return numbers


def _count_of(moves, changed, way):
    """Return the count of a way, None if it has a step that is neither a turn nor a change."""
    count = 0
    for number, goal in zip(way[:-1], way[1:]):
        if goal not in moves[number]:
            if goal not in changed[number]:
                return None
            count += 1
    return count


def way_fault(chart, ins, post, goal, way):
    """Return None for a way of the least count from a post to a goal, otherwise the first word that applies."""
    ins = check_ins(chart, ins)
    start = filling_number(chart.letter_sizes, check_post(chart, post))
    end = filling_number(chart.letter_sizes, check_post(chart, goal))
    numbers = _way_told(chart, way)
    if numbers is None:
        return "posts"
    if numbers[0] != start:
        return "begin"
    moves = moves_of_posts(chart, ins)
    changed = changed_numbers(chart)
    count = _count_of(moves, changed, numbers)
    if count is None:
        return "step"
    if numbers[-1] != end:
        return "end"
    counts, _ = _counted_ways(moves, changed, start)
    return "least" if count > counts[end] else None


def least_slips(chart, ins):
    """Return for each couple of rings the least count of a way from the first to the second."""
    moves = moves_of_posts(chart, ins)
    changed = changed_numbers(chart)
    lots = closed_of(moves)
    table = []
    for lot in lots:
        counts, _ = _counted_ways(moves, changed, lot[0])
        table.append(tuple([counts[goal[0]] for goal in lots]))
    return tuple(table)


def tree_costs(chart, ins):
    """Return for each ring the least cost of its trees."""
    slips = least_slips(chart, ins)
    rates = [[(goal, count, 1) for goal, count in enumerate(row) if goal != ring] for ring, row in enumerate(slips)]
    orders, _, cost = lasting_terms(rates)
    return tuple([cost + order for order in orders])


def last_rings(chart, ins):
    """Return, ascending, the numbers of the rings whose trees cost least."""
    costs = tree_costs(chart, ins)
    least = min(costs)
    return tuple([ring for ring, cost in enumerate(costs) if cost == least])
