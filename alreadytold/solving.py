"""The shares of a closed lot that stay, worked out in whole numbers.

They solve equations whose answers may have thousands of figures. Elimination would
meet such numbers at every step; therefore the equations are inverted once with
remainders by a modulus only, and the answers are drawn from it figure by figure
(each figure is below the modulus), until just one ratio can be meant.
"""

SMALL_MODULUS = 2 ** 61 - 1
LARGE_MODULUS = (1 << 521) - 1
MOST_BITS_FOR_SMALL = 4000


def _inverse_of(number, modulus):
    """Return what makes 1 with the number, up to the modulus, or None if nothing does."""
    one, other = modulus, number % modulus
    low, high = 0, 1
    while other > 0:
        many = one // other
        one, other = other, one - many * other
        low, high = high, low - many * high
    return low % modulus if one == 1 else None


def _pivot_of(rows, place, modulus):
    """Return the first row from a place on whose number there has an inverse, and this inverse."""
    for index in range(place, len(rows)):
        if rows[index][place] != 0:
            inverse = _inverse_of(rows[index][place], modulus)
            if inverse is not None:
                return index, inverse
    return None, None


def _inverse_rows(square, modulus):
    """Return the inverse of a square of numbers up to the modulus, or None."""
    many = len(square)
    rows = [[number % modulus for number in row] + [1 if column == index else 0 for column in range(many)]
            for index, row in enumerate(square)]
    for place in range(many):
        index, inverse = _pivot_of(rows, place, modulus)
        if index is None:
            return None
        pivot = [number * inverse % modulus for number in rows[index]]
        rows[index] = rows[place]
        rows[place] = pivot
        for other in range(many):
            factor = rows[other][place]
            if other != place and factor != 0:
                rows[other] = [(number - factor * part) % modulus for number, part in zip(rows[other], pivot)]
    return [row[many:] for row in rows]


def _modulus_for(square, most):
    """Return a modulus at which the square has an inverse, and this inverse."""
    modulus = SMALL_MODULUS if most.bit_length() < MOST_BITS_FOR_SMALL else LARGE_MODULUS
    inverse = _inverse_rows(square, modulus)
    while inverse is None:
        # Only the finitely many divisors of one number can fail here.
        modulus += 2
        inverse = _inverse_rows(square, modulus)
    return modulus, inverse


def _drawn_answers(square, right, modulus, inverse, most):
    """Return the answers of the equations up to a power of the modulus above most, and the power."""
    parts = [[(place, number) for place, number in enumerate(row) if number != 0] for row in square]
    answers = [0 for _ in right]
    rest = list(right)
    power = 1
    while power <= most:
        small = [number % modulus for number in rest]
        figures = [sum([number * part for number, part in zip(row, small)]) % modulus for row in inverse]
        answers = [answer + figure * power for answer, figure in zip(answers, figures)]
        taken = [sum([number * figures[place] for place, number in row]) for row in parts]
        rest = [(number - less) // modulus for number, less in zip(rest, taken)]
        power = power * modulus
    return answers, power


def _bottom_of(answer, power, most):
    """Return the bottom of the only ratio that the answer means: top and bottom from 1 to most."""
    one, other = power, answer
    low, high = 0, 1
    while other > most:
        many = one // other
        one, other = other, one - many * other
        low, high = high, low + many * high
    return high


def _whole_answers(answers, power, most):
    """Return whole numbers in the proportions of 1 and the ratios that the answers mean."""
    numbers = [1]
    for answer in answers:
        number = answer * numbers[0] % power
        if number > most:
            bottom = _bottom_of(number, power, most)
            numbers = [bottom * known for known in numbers]
            number = number * bottom % power
        numbers.append(number)
    return numbers


def _balanced(away):
    """Return whole numbers in the proportions in which what leaves each place is what comes.

    away[k] has a whole number for each move from place k to another place.
    """
    many = len(away)
    leaving = [sum(row) for row in away]
    most = 1
    for number in leaving:
        most = most * number
    # Place 0 counts 1. At each other place, what leaves it less what comes from the others is what comes from 0.
    square = [[leaving[place] if place == other else -away[other][place] for other in range(1, many)]
              for place in range(1, many)]
    right = [away[0][place] for place in range(1, many)]
    modulus, inverse = _modulus_for(square, most)
    answers, power = _drawn_answers(square, right, modulus, inverse, 2 * most * most)
    return _whole_answers(answers, power, most)


def staying_numbers(rows, lot):
    """Return a whole number for each of a closed lot, in the proportions of its shares that stay.

    The rows are those of whole_rows for the lot alone, in its order.
    """
    if [parts for _, parts in rows if len(parts) > 1] == []:
        return [1 for _ in lot]
    places = {number: place for place, number in enumerate(lot)}
    away = []
    for place, (_, parts) in enumerate(rows):
        row = [0 for _ in lot]
        for number, part in parts:
            if places[number] != place:
                row[places[number]] = part
        away.append(row)
    return [bottom * number for (bottom, _), number in zip(rows, _balanced(away))]
