"""Stories of many like days: their number, all of them, and each by its number."""

from alreadytold.errors import NoDayStory
from alreadytold.houses import check_days, check_ends
from alreadytold.ratios import is_whole
from alreadytold.stepping import (are_couples, is_stepping, moves_of_house, numbers_with_hand, numbers_with_letter,
                                  stepped_counts)
from alreadytold.wires import is_sequence

MOST_DAYS = 60


def days_table(house, days):
    """Return, by couples, how many ways of so many steps lead from the row's couple to the column's."""
    check_days(days, 0, MOST_DAYS)
    moves = moves_of_house(house)
    rows = []
    for number, _ in enumerate(moves):
        counts = [1 if other == number else 0 for other, _ in enumerate(moves)]
        for _ in range(days):
            counts = stepped_counts(moves, counts)
        rows.append(tuple(counts))
    return tuple(rows)


def _ways_back(moves, goals, days):
    """Return for 0, 1, .. steps a row of the number of ways from each couple into the goals."""
    ways = [[1 if number in goals else 0 for number, _ in enumerate(moves)]]
    for _ in range(days):
        before = ways[-1]
        ways.append([sum([before[lead] for lead in leads]) for leads in moves])
    return ways


def _begun(house, days, hand, blank):
    """Check all arguments; return the moves, the ways back and the couples at which stories begin."""
    check_days(days, 0, MOST_DAYS)
    check_ends(house, hand, blank)
    moves = moves_of_house(house)
    ways = _ways_back(moves, numbers_with_letter(house, blank), days)
    return moves, ways, numbers_with_hand(house, hand)


def count_days(house, days, hand, blank):
    """Return the number of stories of so many days from the hand with the blank."""
    _, ways, first = _begun(house, days, hand, blank)
    return sum([ways[days][number] for number in first])


def all_days(house, days, hand, blank):
    """Yield all stories of so many days from the hand with the blank, ascending."""
    moves, ways, first = _begun(house, days, hand, blank)
    couples = house.all_couples
    # Only what still leads to the blank is gone into, so each part becomes a story.
    parts = [(number,) for number in reversed(first) if ways[days][number] > 0]
    while parts:
        part = parts.pop()
        left = days + 1 - len(part)
        if left == 0:
            yield tuple([couples[number] for number in part])
        else:
            leads = [lead for lead in moves[part[-1]] if ways[left - 1][lead] > 0]
            parts.extend([part + (lead,) for lead in reversed(leads)])


def _chosen(choice, ways, number):
    """Return the couple of a choice in whose stories the one with this number is, and its number among these."""
    for couple in choice:
        if number < ways[couple]:
            return couple, number
        number = number - ways[couple]
    return None, number


def day_story(house, days, hand, blank, number):
    """Return the story with this number in the order of all_days."""
    moves, ways, choice = _begun(house, days, hand, blank)
    if not is_whole(number, 0, sum([ways[days][couple] for couple in choice]) - 1):
        raise NoDayStory(number)
    couples = house.all_couples
    story = []
    for left in range(days, -1, -1):
        couple, number = _chosen(choice, ways[left], number)
        story.append(couples[couple])
        choice = moves[couple]
    return tuple(story)


def days_fault(house, days, hand, blank, story):
    """Return None for a story of so many days from the hand with the blank, otherwise the first word that applies."""
    check_days(days, 0, MOST_DAYS)
    check_ends(house, hand, blank)
    if not is_sequence(story, days + 1, days + 1):
        return "story"
    if not are_couples(house, story):
        return "couple"
    if story[0][0] != hand:
        return "hand"
    if story[-1][1] != blank:
        return "blank"
    return None if is_stepping(house, story) else "step"
