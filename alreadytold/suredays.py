"""What is sure on a day of very many days: which couples stories can have there."""

from alreadytold.dayrounds import FAR_DAYS
from alreadytold.errors import BadDay
from alreadytold.houses import check_days, check_ends, check_hand, check_letter
from alreadytold.lots import turned_about
from alreadytold.ratios import is_whole
from alreadytold.stepping import LotWalk, couples_numbered, moves_of_house, numbers_with_hand, numbers_with_letter


class OnDay:
    """The hands and the letters that stories can have on a day."""

    def __init__(self, hands, letters):
        self.hands = hands
        self.letters = letters

    def __eq__(self, other):
        return isinstance(other, OnDay) and self.hands == other.hands and self.letters == other.letters


class Matters:
    """How many days back the hand, and how many days ahead the blank matters at most; None: always."""

    def __init__(self, back, ahead):
        self.back = back
        self.ahead = ahead

    def __eq__(self, other):
        return isinstance(other, Matters) and self.back == other.back and self.ahead == other.ahead


def _hand_walk(house, hand):
    return LotWalk(moves_of_house(house), numbers_with_hand(house, hand))


def _blank_walk(house, blank):
    return LotWalk(turned_about(moves_of_house(house)), numbers_with_letter(house, blank))


def reached(house, days, hand):
    """Return the ascending couples to which so many steps lead from some couple with the hand."""
    check_days(days, 0, FAR_DAYS)
    check_hand(house, hand)
    return couples_numbered(house, _hand_walk(house, hand).lot_after(days))


def leading(house, days, blank):
    """Return the ascending couples from which so many steps lead to some couple with the letter blank."""
    check_days(days, 0, FAR_DAYS)
    check_letter(house, blank)
    return couples_numbered(house, _blank_walk(house, blank).lot_after(days))


def couples_on(house, days, hand, blank, day):
    """Return the ascending couples that the stories have on this day."""
    check_days(days, 0, FAR_DAYS)
    check_ends(house, hand, blank)
    if not is_whole(day, 0, days):
        raise BadDay(day)
    ahead = leading(house, days - day, blank)
    return tuple([couple for couple in reached(house, day, hand) if couple in ahead])


def worths_on(house, days, hand, blank, day):
    """Return the ascending hands and letters that the stories have on this day."""
    couples = couples_on(house, days, hand, blank, day)
    hands = sorted(set([hand_there for hand_there, _ in couples]))
    letters = sorted(set([letter for _, letter in couples]))
    return OnDay(tuple(hands), tuple(letters))


def _least_alike(walks):
    """Return the least number of moves from which on all walks stay at one and the same lot, None if they never do."""
    last = walks[0].lots[-1]
    for walk in walks:
        if walk.lots[-1] != last or walk.back != len(walk.lots) - 1:
            return None
    return max([walk.back for walk in walks])


def last_that_matters(house):
    """Return from how many days on hands behind and blanks ahead no longer matter."""
    back = _least_alike([_hand_walk(house, hand) for hand in range(house.hand_size)])
    ahead = _least_alike([_blank_walk(house, blank) for blank in range(house.letter_size)])
    return Matters(back, ahead)
