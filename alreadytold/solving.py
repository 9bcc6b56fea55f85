"""Equations of flows between places, worked out in whole numbers.

Their answers may have thousands of figures. Elimination would meet such numbers at
every step; therefore the equations are inverted once with remainders by a modulus
only, and the answers are drawn from it figure by figure (each figure is below the
modulus), until just one ratio can be meant or short ones are found to solve the equations.

Flows are told as away[k], which has a whole number for each move from place k to
another place, and leaving[k], what leaves place k in all: at least the sum of away[k].
"""

from math import isqrt

SMALL_MODULUS = 2 ** 61 - 1
LARGE_MODULUS = (1 << 521) - 1
MOST_BITS_FOR_SMALL = 4000
EARLY_FIGURES = 8


def _inverse_of(number, modulus):
    """Return what makes 1 with the number, up to the modulus, or None if nothing does."""
    one, other = modulus, number % modulus
    low, high = 0, 1
    while other > 0:
        many = one // other
        one, other = other, one - many * other
        low, high = high, low - many * high
    return low % modulus if one == 1 else None


def _pivot_of(rows, place, modulus):
    """Return the first row from a place on whose number there has an inverse, and this inverse."""
    for index in range(place, len(rows)):
        if rows[index][place] != 0:
            inverse = _inverse_of(rows[index][place], modulus)
            if inverse is not None:
                return index, inverse
    return None, None


def _inverse_rows(square, modulus):
    """Return the inverse of a square of numbers up to the modulus, or None."""
    many = len(square)
    rows = [[number % modulus for number in row] + [1 if column == index else 0 for column in range(many)]
            for index, row in enumerate(square)]
    for place in range(many):
        index, inverse = _pivot_of(rows, place, modulus)
        if index is None:
            return None
        pivot = [number * inverse % modulus for number in rows[index]]
        rows[index] = rows[place]
        rows[place] = pivot
        for other in range(many):
            factor = rows[other][place]
            if other != place and factor != 0:
                rows[other] = [(number - factor * part) % modulus for number, part in zip(rows[other], pivot)]
    return [row[many:] for row in rows]


def _modulus_for(square, most):
    """Return a modulus at which the square has an inverse, and this inverse."""
    modulus = SMALL_MODULUS if most.bit_length() < MOST_BITS_FOR_SMALL else LARGE_MODULUS
    inverse = _inverse_rows(square, modulus)
    while inverse is None:
        # Only the finitely many divisors of one number can fail here.
        modulus += 2
        inverse = _inverse_rows(square, modulus)
    return modulus, inverse


def _joined_figures(figures, modulus):
    """Return the number with these figures, the least one first."""
    power = modulus
    # Numbers of like length are joined, for which multiplying is quickest.
    while len(figures) > 1:
        joined = [low + high * power for low, high in zip(figures[::2], figures[1::2])]
        figures = joined + figures[2 * len(joined):]
        power = power * power
    return figures[0]


def _joined_rows(drawn, modulus):
    """Return for each place the number whose figures are drawn there."""
    return [_joined_figures([figures[place] for figures in drawn], modulus) for place, _ in enumerate(drawn[0])]


def _bottom_of(answer, power, most):
    """Return the bottom of the only ratio that the answer means: its top is at most most, of any sign."""
    one, other = power, answer
    low, high = 0, 1
    while other > most:
        many = one // other
        one, other = other, one - many * other
        low, high = high, low + many * high
    return high


def _signed(number, power):
    """Return what is nearest to 0 of the numbers that are the same up to the power."""
    return number if 2 * number < power else number - power


def _whole_answers(answers, power, most):
    """Return the tops of the ratios that the answers mean, and their common bottom, None if it is above most."""
    tops = []
    bottom = 1
    for answer in answers:
        top = _signed(answer * bottom % power, power)
        if abs(top) > most:
            factor = _bottom_of(top % power, power, most)
            tops = [factor * known for known in tops]
            bottom = factor * bottom
            top = _signed(top * factor % power, power)
        if bottom > most:
            return None
        tops.append(top)
    return tops, bottom


def _are_solved(parts, right, tops, bottom):
    """Tell whether answers, as tops over one bottom, solve the equations."""
    for row, number in zip(parts, right):
        if sum([part * tops[place] for place, part in row]) != number * bottom:
            return False
    return True


def _drawn_answers(square, right, modulus, inverse, limits):
    """Return the tops of the answers of the equations and their common bottom; limits bound both."""
    enough = 2 * limits[0] * limits[1]
    parts = [[(place, number) for place, number in enumerate(row) if number != 0] for row in square]
    drawn = []
    rest = list(right)
    power = 1
    early = EARLY_FIGURES
    while power <= enough:
        small = [number % modulus for number in rest]
        newest = [sum([number * part for number, part in zip(row, small)]) % modulus for row in inverse]
        drawn.append(newest)
        taken = [sum([number * newest[place] for place, number in row]) for row in parts]
        rest = [(number - less) // modulus for number, less in zip(rest, taken)]
        power = power * modulus
        if len(drawn) == early:
            # Short answers show themselves long before all figures are drawn, and solving is proof enough.
            early = 8 * early
            found = _whole_answers(_joined_rows(drawn, modulus), power, isqrt(power) // 2)
            if found is not None and _are_solved(parts, right, found[0], found[1]):
                return found
    return _whole_answers(_joined_rows(drawn, modulus), power, limits[0])


def leaking_answers(away, leaving, rights):
    """Return (tops, bottom) of the answers for each row of whole right sides.

    The answers x tell for each place that what leaves it, less what comes from the other places,
    is its right side. From each place something must leak sooner or later, so there is just one answer.
    """
    many = len(away)
    square = [[leaving[place] if place == other else -away[other][place] for other in range(many)]
              for place in range(many)]
    # By trees of moves, no determinant of a part of the square is above the product of its leaving numbers.
    most = 1
    for number in leaving:
        most = most * number
    modulus, inverse = _modulus_for(square, most)
    rows = []
    for right in rights:
        greatest = most * max(1, sum([abs(number) for number in right]))
        rows.append(_drawn_answers(square, right, modulus, inverse, (greatest, most)))
    return rows


def balanced_numbers(away):
    """Return whole numbers in the proportions in which what leaves each place is what comes."""
    leaving = [sum(row) for row in away]
    # Place 0 counts 1. At each other place, what leaves it less what comes from the others is what comes from 0.
    rest = [row[1:] for row in away[1:]]
    tops, bottom = leaking_answers(rest, leaving[1:], [away[0][1:]])[0]
    return [bottom] + tops


def flows_among(rows, places):
    """Return away and leaving for some places, told by their rows of whole_rows in the same order."""
    at = {number: place for place, number in enumerate(places)}
    away = []
    leaving = []
    for (bottom, parts), number in zip(rows, places):
        row = [0 for _ in places]
        leaves = bottom
        for goal, part in parts:
            if goal == number:
                leaves = bottom - part
            elif goal in at:
                row[at[goal]] = part
        away.append(row)
        leaving.append(leaves)
    return away, leaving


def staying_numbers(rows, lot):
    """Return a whole number for each of a closed lot, in the proportions of its shares that stay.

    The rows are those of whole_rows for the lot alone, in its order.
    """
    if [parts for _, parts in rows if len(parts) > 1] == []:
        return [1 for _ in lot]
    away, _ = flows_among(rows, lot)
    return [bottom * number for (bottom, _), number in zip(rows, balanced_numbers(away))]
