"""How the number of stories grows with the days: whether it ends, keeps to a power or doubles."""

from alreadytold.houses import check_ends
from alreadytold.lots import least_walk, marks_reached, turns_to
from alreadytold.stepping import (are_couples, couples_numbered, is_stepping, moves_of_house, numbers_with_hand,
                                  numbers_with_letter, stepped_counts)


class Growth:
    """The kind of growth: "ends", "power" with its power, or "doubles"."""

    def __init__(self, kind, power):
        self.kind = kind
        self.power = power

    def __eq__(self, other):
        return isinstance(other, Growth) and self.kind == other.kind and self.power == other.power


class Doubling:
    """Couples before a couple with two unlike loops of one length, both loops, and couples after it."""

    def __init__(self, before, one, other, after):
        self.before = before
        self.one = one
        self.other = other
        self.after = after

    def __eq__(self, other):
        return (isinstance(other, Doubling) and self.before == other.before and self.one == other.one
                and self.other == other.other and self.after == other.after)


def never_two(house, hand, blank):
    """Return the least number of days with two stories or more, None if there is none."""
    check_ends(house, hand, blank)
    moves = moves_of_house(house)
    first = numbers_with_hand(house, hand)
    last = numbers_with_letter(house, blank)
    counts = [1 if number in first else 0 for number, _ in enumerate(moves)]
    seen = {}
    while tuple(counts) not in seen:
        if sum([counts[number] for number in last]) > 1:
            return len(seen)
        seen[tuple(counts)] = True
        # More than two ways count as two, so that the counts come round.
        counts = [min(count, 2) for count in stepped_counts(moves, counts)]
    return None


def _is_marked(mark, number):
    return (mark >> number) & 1 == 1


def _numbers_on_way(marks, first, last):
    """Return, ascending, the numbers that are reached from the first ones and reach the last ones."""
    ahead = [number for number, mark in enumerate(marks) if [goal for goal in last if _is_marked(mark, goal)] != []]
    return [number for number in ahead if [start for start in first if _is_marked(marks[start], number)] != []]


def _loop_lots(moves, marks, numbers):
    """Return the lots of numbers that reach each other by loops, and how many moves each has within."""
    rows = []
    for number in numbers:
        lot = [other for other in numbers if _is_marked(marks[number], other) and _is_marked(marks[other], number)]
        inner = [lead for other in lot for lead in moves[other] if lead in lot]
        if lot[0] == number and inner != []:
            rows.append((lot, len(inner)))
    return rows


def _most_passed(marks, lots):
    """Return the greatest number of lots that one walk can pass."""
    most = {}
    # What reaches the fewest lots is counted first, for it lies behind all that reaches it.
    order = sorted([(len([0 for other in lots if _is_marked(marks[lot[0]], other[0])]), lot[0]) for lot in lots])
    for _, number in order:
        behind = [most[other] for other in most if _is_marked(marks[number], other)]
        most[number] = 1 + max(behind, default=0)
    return max(list(most.values()))


def _ways(house, hand, blank):
    """Check the hand and the blank; return moves, where they lead, and where stories begin, end and have loops."""
    check_ends(house, hand, blank)
    moves = moves_of_house(house)
    marks = marks_reached(moves)
    first = numbers_with_hand(house, hand)
    last = numbers_with_letter(house, blank)
    return moves, marks, first, last, _loop_lots(moves, marks, _numbers_on_way(marks, first, last))


def growth(house, hand, blank):
    """Return how the numbers of stories from the hand with the blank grow with the days."""
    _, marks, _, _, rows = _ways(house, hand, blank)
    if not rows:
        return Growth("ends", None)
    # As many moves as couples make just one loop; one move more makes two that can be taken in any order.
    if [lot for lot, inner in rows if inner > len(lot)] != []:
        return Growth("doubles", None)
    return Growth("power", _most_passed(marks, [lot for lot, _ in rows]) - 1)


def doubling(house, hand, blank):
    """Return two loops of one length that stories can take in all orders, None if there are none."""
    moves, _, first, last, rows = _ways(house, hand, blank)
    forks = [number for lot, _ in rows for number in lot if len([lead for lead in moves[number] if lead in lot]) > 1]
    if not forks:
        return None
    fork = forks[0]
    turns = turns_to(moves, [fork])
    start = min([number for number in first if turns[number] is not None])
    one, other = [least_walk(moves, turns, lead) for lead in moves[fork] if turns[lead] is not None][:2]
    after = least_walk(moves, turns_to(moves, last), fork)[1:]
    return Doubling(couples_numbered(house, least_walk(moves, turns, start)), couples_numbered(house, one + other),
                    couples_numbered(house, other + one), couples_numbered(house, after))


def _has_wrong_loop(before, one, other):
    """Tell whether two ways are no unlike loops of one length of the last couple before them."""
    # Two empty ways are alike, and one is no loop.
    if len(one) != len(other) or one == other:
        return True
    return one[-1] != before[-1] or other[-1] != before[-1]


def doubling_fault(house, hand, blank, before, one, other, after):
    """Return None for loops that stories can take in all orders, otherwise the first word that applies."""
    check_ends(house, hand, blank)
    for thing in (before, one, other, after):
        if not are_couples(house, thing):
            return "couple"
    if len(before) == 0:
        return "couple"
    before, one, other, after = [[tuple(couple) for couple in row] for row in (before, one, other, after)]
    if before[0][0] != hand:
        return "hand"
    if _has_wrong_loop(before, one, other):
        return "loop"
    if (before + after)[-1][1] != blank:
        return "blank"
    # The first way goes round once by both loops, so it has all steps.
    return None if is_stepping(house, before + one + other + after) else "step"
