"""Houses for the tests, and slow ways that follow part 8 of the document word by word."""

import random
from itertools import product

from alreadytold.houses import House

# The example of the document.
EXAMPLE = House(2, 2, ((0, 0), (0, 1), (0, 1), (1, 1)))
# Each day hands on its hand and sends back its letter.
KEEPING = House(3, 2, [(hand, letter) for hand in range(3) for letter in range(2)])
# (0, 0) and (1, 1) have steps to themselves and to each other; the other couples have none.
FORKED = House(2, 2, ((0, 0), (1, 0), (0, 1), (1, 1)))
# All stories end: none is longer than (0, 1), (1, 0), (1, 1), (0, 0).
ENDING = House(2, 2, ((1, 1), (1, 1), (0, 1), (1, 0)))


def couples_of(house):
    return [(hand, letter) for hand in range(house.hand_size) for letter in range(house.letter_size)]


def random_house(rng, hands=None, letters=None):
    """A house, often one with few worths made, so that couples have many steps."""
    hands = hands or rng.randint(2, 4)
    letters = letters or rng.randint(2, 4)
    most = rng.choice([1, 2, 4])
    rows = [(rng.randrange(hands), rng.randrange(min(letters, most))) for _ in range(hands * letters)]
    if rng.random() < 0.5:
        rows = [(hand, rng.randrange(letters)) for hand, _ in rows]
    return House(hands, letters, rows)


def random_houses(seed, many):
    rng = random.Random(seed)
    for _ in range(many):
        yield rng, random_house(rng)


def has_step(house, couple, lead):
    """[8.2]: from (h, y) to (i, z) exactly if the house makes (i, y) of (h, z)."""
    (hand, letter), (hand2, letter2) = couple, lead
    return house.rows[hand * house.letter_size + letter2] == (hand2, letter)


def slow_leads(house):
    return {couple: [lead for lead in couples_of(house) if has_step(house, couple, lead)] for couple in couples_of(house)}


def slow_stories(house, days, hand, blank):
    """[8.3]: all tuples of couples, each but the last with a step to the next one."""
    leads = slow_leads(house)
    parts = [((hand, letter),) for letter in range(house.letter_size)]
    for _ in range(days):
        parts = [part + (lead,) for part in parts for lead in leads[part[-1]]]
    return sorted(part for part in parts if part[-1][1] == blank)


def slow_days(house, days, hand, blank):
    """[8.1] word by word: hands and letters of all days chosen in every way."""
    found = []
    for hands in product(range(house.hand_size), repeat=days):
        for letters in product(range(house.letter_size), repeat=days):
            story_hands, story_letters = (hand,) + hands, letters + (blank,)
            if all(house.rows[story_hands[day] * house.letter_size + story_letters[day + 1]]
                   == (story_hands[day + 1], story_letters[day]) for day in range(days)):
                found.append(tuple(zip(story_hands, story_letters)))
    return sorted(found)


def slow_counts(house, hand, days):
    """Numbers of stories by blanks for 0, 1, .. days, by ways of steps."""
    leads = slow_leads(house)
    counts = {couple: int(couple[0] == hand) for couple in couples_of(house)}
    rows = []
    for _ in range(days + 1):
        rows.append([sum(many for couple, many in counts.items() if couple[1] == blank)
                     for blank in range(house.letter_size)])
        after = dict.fromkeys(counts, 0)
        for couple, many in counts.items():
            for lead in leads[couple]:
                after[lead] += many
        counts = after
    return rows


def ends_of(house):
    return [(hand, blank) for hand in range(house.hand_size) for blank in range(house.letter_size)]
