"""Houses of like days: each day takes a hand and a letter, hands on a hand and sends back a letter."""

from alreadytold.errors import BadDays, BadExchange, BadHand, BadHouse, BadLetter
from alreadytold.ratios import is_whole
from alreadytold.wires import is_filling, is_order, is_sequence


def check_hand(house, hand):
    """Refuse what is no hand of the house."""
    if not is_whole(hand, 0, house.hand_size - 1):
        raise BadHand(hand)


def check_letter(house, letter):
    """Refuse what is no letter of the house."""
    if not is_whole(letter, 0, house.letter_size - 1):
        raise BadLetter(letter)


def check_days(days, least, most):
    """Refuse what is no whole number of days from least to most."""
    if not is_whole(days, least, most):
        raise BadDays(days)


def check_ends(house, hand, blank):
    """Refuse what is no hand, then what is no letter of the house."""
    check_hand(house, hand)
    check_letter(house, blank)


def _rows_told(hand_size, letter_size, rows):
    """Return the rows, a couple for each couple taken, as a tuple of tuples."""
    if not is_whole(hand_size, 2, 4):
        raise BadHouse(0, "hand")
    if not is_whole(letter_size, 2, 4):
        raise BadHouse(0, "letter")
    many = hand_size * letter_size
    if not is_sequence(rows, many, many):
        raise BadHouse(0, "rows")
    for index, row in enumerate(rows):
        if not is_filling((hand_size, letter_size), row):
            raise BadHouse(index, "row")
    return tuple([tuple(row) for row in rows])


class House:
    """A row of like days, with the couple (hand, letter) made of each couple taken."""

    def __init__(self, hand_size, letter_size, rows):
        self.rows = _rows_told(hand_size, letter_size, rows)
        self.hand_size = hand_size
        self.letter_size = letter_size

    def __eq__(self, other):
        return (isinstance(other, House) and self.hand_size == other.hand_size
                and self.letter_size == other.letter_size and self.rows == other.rows)

    @property
    def all_couples(self):
        """All couples (hand, letter), ascending."""
        return tuple([(hand, letter) for hand in range(self.hand_size) for letter in range(self.letter_size)])

    @property
    def all_steps(self):
        """All steps from couple to couple, ascending: (h, y) to (i, z) if (i, y) is made of (h, z)."""
        steps = []
        for hand in range(self.hand_size):
            for letter in range(self.letter_size):
                made_hand, made_letter = self.rows[hand * self.letter_size + letter]
                steps.append(((hand, made_letter), (made_hand, letter)))
        return tuple(sorted(steps))

    def entry_of(self, hand, letter):
        """Return the couple that a day makes of a hand and a letter."""
        check_hand(self, hand)
        check_letter(self, letter)
        return self.rows[hand * self.letter_size + letter]

    def with_row(self, hand, letter, row):
        """Return a house that makes this row of a hand and a letter instead."""
        check_hand(self, hand)
        check_letter(self, letter)
        place = hand * self.letter_size + letter
        return House(self.hand_size, self.letter_size, self.rows[:place] + (row,) + self.rows[place + 1:])

    def exchanged(self, hands, letters):
        """Return the house in which hand h is called hands[h] and letter y letters[y]."""
        if not is_order(hands, self.hand_size):
            raise BadExchange("hands")
        if not is_order(letters, self.letter_size):
            raise BadExchange("letters")
        rows = [None for _ in self.rows]
        for (hand, letter), (made_hand, made_letter) in zip(self.all_couples, self.rows):
            rows[hands[hand] * self.letter_size + letters[letter]] = (hands[made_hand], letters[made_letter])
        return House(self.hand_size, self.letter_size, rows)

    def mirrored(self):
        """Return the house whose hands are the letters and whose letters are the hands."""
        rows = [None for _ in self.rows]
        for (hand, letter), (made_hand, made_letter) in zip(self.all_couples, self.rows):
            rows[letter * self.hand_size + hand] = (made_letter, made_hand)
        return House(self.letter_size, self.hand_size, rows)
