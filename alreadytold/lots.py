"""Moves between numbers: which come to which, closed lots and their beats.

Moves are told as a list that has, for each number, the ascending numbers to which
a move leads from it.
"""

from math import gcd


def moves_of(table):
    """Return the moves of a right table: where its entries are above 0."""
    return [[number for number, share in enumerate(row) if share[0] > 0] for row in table]


def marks_reached(moves):
    """Return for each number the numbers that it comes to, as the bits of a whole number."""
    marks = []
    for number, leads in enumerate(moves):
        mark = 1 << number
        for lead in leads:
            mark = mark | (1 << lead)
        marks.append(mark)
    for middle, _ in enumerate(moves):
        through = marks[middle]
        marks = [mark | through if (mark >> middle) & 1 else mark for mark in marks]
    return marks


def closed_of(moves):
    """Return all closed lots, each an ascending tuple, by their least numbers."""
    marks = marks_reached(moves)
    lots = []
    for number, mark in enumerate(marks):
        lot = tuple([other for other, _ in enumerate(moves) if (mark >> other) & 1])
        # The lot is closed if all that is reached comes back; its least number tells it once.
        if lot[0] == number and [other for other in lot if marks[other] != mark] == []:
            lots.append(lot)
    return tuple(lots)


def is_left(moves, lot):
    """Tell whether some move leads out of a lot."""
    for number in lot:
        for lead in moves[number]:
            if lead not in lot:
                return True
    return False


def _turns_over(leads, lot):
    """Return for each number the least number of steps by leads from some number of a lot, or None."""
    turns = [None for _ in leads]
    for number in lot:
        turns[number] = 0
    queue = list(lot)
    place = 0
    while place < len(queue):
        here = queue[place]
        place += 1
        for lead in leads[here]:
            if turns[lead] is None:
                turns[lead] = turns[here] + 1
                queue.append(lead)
    return turns


def turned_about(moves):
    """Return the moves told backwards: for each number the ascending ones from which a move leads to it."""
    back = [[] for _ in moves]
    for number, leads in enumerate(moves):
        for lead in leads:
            back[lead].append(number)
    return back


def turns_to(moves, lot):
    """Return for each number the least number of moves into a lot, None for no way."""
    return _turns_over(turned_about(moves), lot)


def least_walk(moves, turns, here):
    """Return the least of the shortest walks from here to where turns, those of turns_to, are 0."""
    walk = [here]
    while turns[here] > 0:
        here = min([lead for lead in moves[here] if turns[lead] == turns[here] - 1])
        walk.append(here)
    return walk


def beats_of_lot(moves, lot):
    """Return the beats of a closed lot, the first one with its least number."""
    turns = _turns_over(moves, lot[:1])
    many = 0
    for number in lot:
        for lead in moves[number]:
            # Any two ways to one number differ by a multiple of the number of beats.
            many = gcd(many, turns[number] + 1 - turns[lead])
    beats = [[] for _ in range(many)]
    for number in lot:
        beats[turns[number] % many].append(number)
    return tuple([tuple(beat) for beat in beats])
