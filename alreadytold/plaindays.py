"""Which worths of many days become known, and for which numbers of days all of them do."""

from alreadytold.houses import check_days, check_ends
from alreadytold.manydays import MOST_DAYS
from alreadytold.rounds import Round


def _made_of_known(house, hand, letter):
    """Return the hand and the letter that a day surely makes of what it takes; None for what is not known."""
    rows = [row for couple, row in zip(house.all_couples, house.rows)
            if hand in (None, couple[0]) and letter in (None, couple[1])]
    made = []
    for place in range(2):
        worths = sorted(set([row[place] for row in rows]))
        made.append(worths[0] if len(worths) == 1 else None)
    return made


def _known_worths(house, days, hand, blank):
    """Return lists of the hands and of the letters that become known on the days from 0 on, None for the others."""
    hands = [hand] + [None for _ in range(days)]
    letters = [None for _ in range(days)] + [blank]
    while True:
        before = hands + letters
        for day in range(days):
            made_hand, made_letter = _made_of_known(house, hands[day], letters[day + 1])
            hands[day + 1] = made_hand
            letters[day] = made_letter
        if hands + letters == before:
            return hands, letters


def known_on(house, days, hand, blank):
    """Return for each day the couple (hand, letter) of the worths that become known, None for the others."""
    check_days(days, 0, MOST_DAYS)
    check_ends(house, hand, blank)
    hands, letters = _known_worths(house, days, hand, blank)
    return tuple(zip(hands, letters))


def plain_days(house, hand, blank):
    """Return the round of all numbers of days for which all hands and letters become known."""
    check_ends(house, hand, blank)
    many = house.hand_size + house.letter_size
    plain = []
    for days in range(many + 1):
        hands, letters = _known_worths(house, days, hand, blank)
        if None not in hands + letters:
            plain.append(days)
    # From so many days on either all numbers are plain or none is.
    return Round(many, 1, plain)
