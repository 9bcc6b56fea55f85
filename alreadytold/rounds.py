"""Rounds: sets of whole numbers that come round from some number on."""

from math import lcm

from alreadytold.errors import BadDays, BadRound
from alreadytold.ratios import is_whole
from alreadytold.wires import is_sequence

MOST_HEAD = 10000
MOST_TURN = 10000


def _check_parts(head, turn, lot):
    if not is_whole(head, 0, MOST_HEAD):
        raise BadRound("head")
    if not is_whole(turn, 1, MOST_TURN):
        raise BadRound("turn")
    if not is_sequence(lot, 0):
        raise BadRound("lot")
    least = 0
    for number in lot:
        if not is_whole(number, least, head + turn - 1):
            raise BadRound("lot")
        least = number + 1


def _marks(head, turn, lot, end):
    """Return for each number below end, which is head + turn or more, whether it belongs."""
    marks = [False for _ in range(head + turn)]
    for number in lot:
        marks[number] = True
    many = (end - head - 1) // turn
    return (marks + marks[head:] * many)[:end]


def _lot_of(marks):
    """Return, ascending, the numbers that belong by marks."""
    return tuple([number for number, mark in enumerate(marks) if mark])


def _least_turn(cycle):
    """Return the least number of marks whose row gives a cycle when it is repeated."""
    for turn in range(1, len(cycle)):
        if len(cycle) % turn == 0 and cycle[turn:] == cycle[:-turn]:
            return turn
    return len(cycle)


def _least_head(marks, head, turn):
    """Return the least number from which on marks come round with this turn."""
    while head > 0 and marks[head - 1] == marks[head - 1 + turn]:
        head = head - 1
    return head


def _place_in(lot, number):
    """Return how many numbers of an ascending lot are below a number."""
    first = 0
    end = len(lot)
    # The lot ascends, so each look halves what is left.
    while first < end:
        middle = (first + end) // 2
        if lot[middle] < number:
            first = middle + 1
        else:
            end = middle
    return first


def _check_from(days):
    if not is_whole(days, 0):
        raise BadDays(days)


def _folded(head, turn, number):
    """Return the number below head + turn that belongs exactly if a number does."""
    return number if number < head else head + (number - head) % turn


def _shared_marks(one, other):
    """Return a head and a turn of two rounds together, and both marks of each number below their sum."""
    turn = lcm(one.turn, other.turn)
    if turn > MOST_TURN:
        raise BadRound("turn")
    head = max(one.head, other.head)
    marks = _marks(one.head, one.turn, one.lot, head + turn)
    others = _marks(other.head, other.turn, other.lot, head + turn)
    return head, turn, list(zip(marks, others))


class Round:
    """A set of whole numbers from 0: n from head on belongs to it exactly if n + turn does."""

    def __init__(self, head, turn, lot):
        _check_parts(head, turn, lot)
        marks = _marks(head, turn, lot, head + turn)
        self.turn = _least_turn(marks[head:])
        self.head = _least_head(marks, head, self.turn)
        self.lot = _lot_of(marks[:self.head + self.turn])

    def __eq__(self, other):
        return (isinstance(other, Round) and self.head == other.head
                and self.turn == other.turn and self.lot == other.lot)

    def __contains__(self, number):
        if not is_whole(number, 0):
            return False
        here = _folded(self.head, self.turn, number)
        place = _place_in(self.lot, here)
        return place < len(self.lot) and self.lot[place] == here

    def __and__(self, other):
        head, turn, couples = _shared_marks(self, other)
        return Round(head, turn, _lot_of([mark and mark2 for mark, mark2 in couples]))

    def __or__(self, other):
        head, turn, couples = _shared_marks(self, other)
        return Round(head, turn, _lot_of([mark or mark2 for mark, mark2 in couples]))

    def __invert__(self):
        marks = _marks(self.head, self.turn, self.lot, self.head + self.turn)
        return Round(self.head, self.turn, _lot_of([not mark for mark in marks]))

    def first_from(self, days):
        """Return the least number from days on that belongs to the set, None if there is none."""
        _check_from(days)
        here = _folded(self.head, self.turn, days)
        place = _place_in(self.lot, here)
        if place < len(self.lot):
            return days + self.lot[place] - here
        # Behind the last number of the lot the next turn begins.
        place = _place_in(self.lot, self.head)
        return days + self.lot[place] + self.turn - here if place < len(self.lot) else None

    def many_below(self, days):
        """Return how many numbers below days belong to the set."""
        _check_from(days)
        here = _folded(self.head, self.turn, days)
        turns = (days - here) // self.turn
        return _place_in(self.lot, here) + turns * (len(self.lot) - _place_in(self.lot, self.head))
