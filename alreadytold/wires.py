"""Names, wires, and the fillings of rows of sizes."""

from alreadytold.errors import NoFilling
from alreadytold.ratios import is_whole

LETTERS = "abcdefghijklmnopqrstuvwxyz"
LONGEST_NAME = 8


def is_sequence(thing, least, most=None):
    """Tell whether a thing is a list or a tuple of least to most things (None: no limit)."""
    if not isinstance(thing, (list, tuple)) or len(thing) < least:
        return False
    return most is None or len(thing) <= most


def is_order(thing, many):
    """Tell whether a thing of any kind is a sequence of all whole numbers below many, each once."""
    if not is_sequence(thing, many, many):
        return False
    return sorted([number for number in thing if is_whole(number)]) == list(range(many))


def is_name(thing):
    """Tell whether a thing of any kind is a name: 1 to 8 letters a to z."""
    if not isinstance(thing, str) or not 1 <= len(thing) <= LONGEST_NAME:
        return False
    for sign in thing:
        if sign not in LETTERS:
            return False
    return True


def is_wire(thing):
    """Tell whether a thing of any kind is a couple of a name and a size from 2 to 4."""
    return is_sequence(thing, 2, 2) and is_name(thing[0]) and is_whole(thing[1], 2, 4)


def wrong_wire(things):
    """Return the place of the first thing that is no wire or bears an earlier name, or None."""
    names = []
    for place, thing in enumerate(things):
        if not is_wire(thing) or thing[0] in names:
            return place
        names.append(thing[0])
    return None


def wires_told(wires):
    """Return wires as a tuple of tuples."""
    return tuple([(name, size) for name, size in wires])


def sizes_of(wires):
    """Return the sizes of wires."""
    return tuple([size for _, size in wires])


def is_filling(sizes, thing):
    """Tell whether a thing of any kind is a row of one worth for each size."""
    if not is_sequence(thing, len(sizes), len(sizes)):
        return False
    for size, worth in zip(sizes, thing):
        if not is_whole(worth, 0, size - 1):
            return False
    return True


def count_fillings(sizes):
    """Return the number of fillings of a sequence of sizes."""
    many = 1
    for size in sizes:
        many = many * size
    return many


def fillings_of(sizes):
    """Yield all fillings, ascending, so that the last worth changes fastest."""
    worths = [0 for _ in sizes]
    while True:
        yield tuple(worths)
        place = len(worths) - 1
        while place >= 0 and worths[place] == sizes[place] - 1:
            worths[place] = 0
            place -= 1
        if place < 0:
            return
        worths[place] += 1


def filling_number(sizes, filling):
    """Return the number of a filling in ascending order."""
    if not is_filling(sizes, filling):
        raise NoFilling(filling)
    number = 0
    for size, worth in zip(sizes, filling):
        number = number * size + worth
    return number


def filling_by_number(sizes, number):
    """Return the filling with this number in ascending order."""
    if not is_whole(number, 0, count_fillings(sizes) - 1):
        raise NoFilling(number)
    worths = []
    rest = number
    for size in reversed(sizes):
        rest, worth = divmod(rest, size)
        worths.append(worth)
    return tuple(reversed(worths))
