"""For which numbers of days there are stories, and stories without end."""

from alreadytold.houses import check_days, check_ends, check_hand
from alreadytold.lots import turned_about
from alreadytold.rounds import Round
from alreadytold.stepping import (LotWalk, are_couples, couples_numbered, is_stepping, moves_of_house,
                                  numbers_with_hand, numbers_with_letter)

FAR_DAYS = 10 ** 30


class Endless:
    """Couples that begin with a hand and step on for ever: before once, then again once more and once more."""

    def __init__(self, before, again):
        self.before = before
        self.again = again

    def __eq__(self, other):
        return isinstance(other, Endless) and self.before == other.before and self.again == other.again


class Ends:
    """The greatest number of days for which some blank has a story."""

    def __init__(self, days):
        self.days = days

    def __eq__(self, other):
        return isinstance(other, Ends) and self.days == other.days


def _hold_blank(house, numbers, blank):
    """Tell whether one of the couples has the letter blank."""
    return [number for number in numbers_with_letter(house, blank) if number in numbers] != []


def has_story(house, days, hand, blank):
    """Tell whether there is a story of so many days, to 10 ** 30, from the hand with the blank."""
    check_days(days, 0, FAR_DAYS)
    check_ends(house, hand, blank)
    walk = LotWalk(moves_of_house(house), numbers_with_hand(house, hand))
    return _hold_blank(house, walk.lot_after(days), blank)


def days_with_story(house, hand, blank):
    """Return the round of all numbers of days that have a story from the hand with the blank."""
    check_ends(house, hand, blank)
    walk = LotWalk(moves_of_house(house), numbers_with_hand(house, hand))
    lot = [days for days, numbers in enumerate(walk.lots) if _hold_blank(house, numbers, blank)]
    return Round(walk.back, len(walk.lots) - walk.back, lot)


def _endless_walk(moves, endless, here):
    """Return a walk through couples from which moves lead on for ever, and the place to which its last comes back."""
    walk = []
    while here not in walk:
        walk.append(here)
        here = [lead for lead in moves[here] if lead in endless][0]
    return walk, walk.index(here)


def endless_story(house, hand):
    """Return couples that step on for ever from the hand, or after how many days all stories end."""
    check_hand(house, hand)
    moves = moves_of_house(house)
    first = numbers_with_hand(house, hand)
    back = LotWalk(turned_about(moves), tuple(range(len(moves))))
    # What has more and more moves ahead only gets less, and the last lot stays.
    endless = back.lots[-1]
    begun = [number for number in first if number in endless]
    if not begun:
        lots = [lot for lot in back.lots if [number for number in first if number in lot] != []]
        return Ends(len(lots) - 1)
    walk, place = _endless_walk(moves, endless, begun[0])
    return Endless(couples_numbered(house, walk[:place]), couples_numbered(house, walk[place:]))


def endless_fault(house, hand, before, again):
    """Return None for couples that begin with the hand and step on for ever, otherwise the first word that applies."""
    check_hand(house, hand)
    if not are_couples(house, before) or not are_couples(house, again):
        return "couple"
    if len(again) == 0:
        return "again"
    row = list(before) + list(again)
    if row[0][0] != hand:
        return "hand"
    return None if is_stepping(house, row + [again[0]]) else "step"
