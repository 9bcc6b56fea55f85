"""Hands of houses that give the same numbers of stories for all days and blanks."""

from alreadytold.errors import OtherLetters
from alreadytold.houses import check_hand
from alreadytold.stepping import moves_of_house, numbers_with_hand, numbers_with_letter, stepped_counts


class UnlikeDays:
    """The least days, and for them the least blank, with unlike numbers of stories, and both numbers."""

    def __init__(self, days, blank, number, other_number):
        self.days = days
        self.blank = blank
        self.number = number
        self.other_number = other_number

    def __eq__(self, other):
        return (isinstance(other, UnlikeDays) and self.days == other.days and self.blank == other.blank
                and self.number == other.number and self.other_number == other.other_number)


def _number_rows(house, hand, many):
    """Return for 0, 1, .. days, so many numbers of days, the row of the numbers of stories by blanks."""
    moves = moves_of_house(house)
    first = numbers_with_hand(house, hand)
    lasts = [numbers_with_letter(house, blank) for blank in range(house.letter_size)]
    counts = [1 if number in first else 0 for number, _ in enumerate(moves)]
    rows = []
    for _ in range(many):
        rows.append([sum([counts[number] for number in last]) for last in lasts])
        counts = stepped_counts(moves, counts)
    return rows


def alike_from(house, hand, other, other_hand):
    """Return None for hands with the same numbers of stories for all days and blanks, else where they first differ."""
    check_hand(house, hand)
    if other.letter_size != house.letter_size:
        raise OtherLetters(other.letter_size)
    check_hand(other, other_hand)
    # Numbers that differ somewhere differ before the days are as many as the couples of both houses.
    many = len(house.rows) + len(other.rows)
    rows = _number_rows(house, hand, many)
    for days, other_row in enumerate(_number_rows(other, other_hand, many)):
        for blank, other_number in enumerate(other_row):
            if rows[days][blank] != other_number:
                return UnlikeDays(days, blank, rows[days][blank], other_number)
    return None


def alike_hands(house):
    """Return the ascending lots of hands that are alike in one house, by their least hands."""
    lots = {}
    for hand in range(house.hand_size):
        rows = _number_rows(house, hand, 2 * len(house.rows))
        lots.setdefault(tuple([tuple(row) for row in rows]), []).append(hand)
    return tuple([tuple(lots[rows]) for rows in lots])
