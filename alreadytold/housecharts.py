"""Houses of a few like days told as charts."""

from alreadytold.boxes import Box
from alreadytold.charts import MOST_FILLINGS, Chart
from alreadytold.errors import BadDays
from alreadytold.houses import check_days
from alreadytold.wires import LETTERS, count_fillings

MOST_DAYS = 5


def as_chart(house, days):
    """Return the chart of a house of 1 to 5 days: its stories are those of the house."""
    check_days(days, 1, MOST_DAYS)
    if count_fillings([house.letter_size for _ in range(days - 1)]) > MOST_FILLINGS:
        raise BadDays(days)
    hands = [("h" + letter, house.hand_size) for letter in LETTERS[:days + 1]]
    letters = [("y" + letter, house.letter_size) for letter in LETTERS[:days + 1]]
    boxes = [Box(day, [hands[day], letters[day + 1]], [hands[day + 1], letters[day]], house.rows)
             for day in range(days)]
    return Chart(hands + letters, boxes, [hands[days][0], letters[0][0]])


def story_filling(story):
    """Return the hands, then the letters of a story, as its filling of the wires of the chart."""
    return tuple([hand for hand, _ in story] + [letter for _, letter in story])
