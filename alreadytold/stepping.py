"""Steps between the couples of a house, told by numbers: couple (h, y) has its place among all couples."""

from alreadytold.wires import is_filling, is_sequence


def number_of_couple(house, couple):
    """Return the number of a couple."""
    return couple[0] * house.letter_size + couple[1]


def couples_numbered(house, numbers):
    """Return the couples with these numbers, in the order of the numbers."""
    couples = house.all_couples
    return tuple([couples[number] for number in numbers])


def numbers_with_hand(house, hand):
    """Return, ascending, the numbers of the couples with a hand."""
    return tuple([number for number, couple in enumerate(house.all_couples) if couple[0] == hand])


def numbers_with_letter(house, letter):
    """Return, ascending, the numbers of the couples with a letter."""
    return tuple([number for number, couple in enumerate(house.all_couples) if couple[1] == letter])


def moves_of_house(house):
    """Return for each couple the ascending numbers of the couples to which it has a step."""
    moves = [[] for _ in house.all_couples]
    for couple, lead in house.all_steps:
        # Steps ascend, so the moves of each couple do.
        moves[number_of_couple(house, couple)].append(number_of_couple(house, lead))
    return moves


def _stepped(moves, lot):
    """Return, ascending, the numbers to which one move leads from a lot."""
    return tuple(sorted(set([lead for number in lot for lead in moves[number]])))


class LotWalk:
    """The lots to which 0, 1, 2, .. moves lead from a lot, told once each; behind the last comes number back again."""

    def __init__(self, moves, lot):
        numbers = {}
        lots = []
        while lot not in numbers:
            numbers[lot] = len(lots)
            lots.append(lot)
            lot = _stepped(moves, lot)
        self.lots = tuple(lots)
        self.back = numbers[lot]

    def lot_after(self, turns):
        """Return the lot to which so many moves lead."""
        if turns < len(self.lots):
            return self.lots[turns]
        return self.lots[self.back + (turns - self.back) % (len(self.lots) - self.back)]


def stepped_counts(moves, counts):
    """Return for each number how many ways come to it by one move more."""
    after = [0 for _ in moves]
    for count, leads in zip(counts, moves):
        for lead in leads:
            after[lead] += count
    return after


def are_couples(house, thing):
    """Tell whether a thing is a sequence of couples: sequences of a hand and a letter."""
    sizes = (house.hand_size, house.letter_size)
    return is_sequence(thing, 0) and [couple for couple in thing if not is_filling(sizes, couple)] == []


def is_stepping(house, row):
    """Tell whether each couple of a row but the last has a step to the next one."""
    moves = moves_of_house(house)
    numbers = [number_of_couple(house, couple) for couple in row]
    return [number for number, lead in zip(numbers, numbers[1:]) if lead not in moves[number]] == []
