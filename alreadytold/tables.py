"""Tables of shares, their closed lots, and the shares that stay in one."""

from alreadytold.errors import BadLot, BadTable, NoRing
from alreadytold.lots import beats_of_lot, closed_of, moves_of
from alreadytold.ratios import ONE, ZERO, is_ratio, is_whole, make_ratio, sum_of
from alreadytold.scaling import whole_rows
from alreadytold.solving import staying_numbers
from alreadytold.wires import is_sequence

MOST_ROWS = 64


def _check_row(index, row, many):
    if not is_sequence(row, many, many):
        raise BadTable(index, "row")
    for share in row:
        if not is_ratio(share):
            raise BadTable(index, "ratio")
    for share in row:
        if share[0] < 0:
            raise BadTable(index, "less")
    if sum_of(row) != ONE:
        raise BadTable(index, "sum")


def check_table(table):
    """Return a table, a square of shares whose rows have the sum 1, as tuples."""
    if not is_sequence(table, 1, MOST_ROWS):
        raise BadTable(0, "many")
    for index, row in enumerate(table):
        _check_row(index, row, len(table))
    return tuple([tuple(row) for row in table])


def closed_lots(table):
    """Return all closed lots, each an ascending tuple, by their least numbers."""
    return closed_of(moves_of(check_table(table)))


def _check_closed(table, lot):
    """Return a closed lot of a right table, ascending without doubles."""
    if not is_sequence(lot, 0):
        raise BadLot(0)
    for index, number in enumerate(lot):
        if not is_whole(number, 0, len(table) - 1):
            raise BadLot(index)
    ascending = tuple(sorted(set(lot)))
    if ascending not in closed_of(moves_of(table)):
        raise NoRing(ascending)
    return ascending


def shares_of_lot(table, lot):
    """Return the only shares of a right table that stay and are 0 outside a closed lot."""
    numbers = staying_numbers(whole_rows([table[number] for number in lot]), lot)
    total = sum(numbers)
    shares = [ZERO for _ in table]
    for number, part in zip(lot, numbers):
        shares[number] = make_ratio(part, total)
    return tuple(shares)


def lot_shares(table, lot):
    """Return the only row of ratios with the sum 1, 0 outside the lot, that the table does not change."""
    table = check_table(table)
    return shares_of_lot(table, _check_closed(table, lot))


def lot_beats(table, lot):
    """Return the beats of a closed lot, the first one with its least number."""
    table = check_table(table)
    return beats_of_lot(moves_of(table), _check_closed(table, lot))
