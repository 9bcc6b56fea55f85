"""Stories: fillings of all wires that every box lets."""

from alreadytold.charts import check_ins, check_post, posts_of
from alreadytold.errors import NoFilling, NoStory
from alreadytold.ratios import is_whole
from alreadytold.wires import is_filling, sizes_of
from alreadytold.working import begun_filling, worths_at


def _let_worths(worths, makes, row):
    """Return the worths with a row made, or None if it is not what was told."""
    grown = list(worths)
    for place, worth in zip(makes, row):
        if grown[place] is None:
            grown[place] = worth
        elif grown[place] != worth:
            return None
    return grown


def _stories_at(chart, ins, post):
    """Return the stories of right ins and a right post, ascending."""
    parts = [begun_filling(chart, ins, post)]
    for number, takes, makes in chart.steps:
        box = chart.boxes[number]
        grown = [_let_worths(worths, makes, row) for worths in parts
                 for row, _ in box.made_by([worths[place] for place in takes])]
        # What is told otherwise than it is made leads to no story.
        parts = [worths for worths in grown if worths is not None]
    return tuple(sorted([tuple(worths) for worths in parts]))


def all_stories(chart, ins):
    """Yield all stories, ascending by their posts, those of one post ascending as fillings."""
    ins = check_ins(chart, ins)
    for post in posts_of(chart):
        for filling in _stories_at(chart, ins, post):
            yield filling


def stories_of_post(chart, ins, post):
    """Return the stories of one post, ascending."""
    ins = check_ins(chart, ins)
    return _stories_at(chart, ins, check_post(chart, post))


def first_story(chart, ins):
    """Return the first story in the order of all_stories, None if there is none."""
    for filling in all_stories(chart, ins):
        return filling
    return None


def count_stories(chart, ins):
    """Return the number of stories."""
    return len(list(all_stories(chart, ins)))


def story_by_number(chart, ins, number):
    """Return the story with this number in the order of all_stories."""
    stories = list(all_stories(chart, ins))
    if not is_whole(number, 0, len(stories) - 1):
        raise NoStory(number)
    return stories[number]


def number_of_story(chart, ins, filling):
    """Return the number of a story in the order of all_stories."""
    stories = list(all_stories(chart, ins))
    if not is_filling(sizes_of(chart.wires), filling) or tuple(filling) not in stories:
        raise NoStory(filling)
    return stories.index(tuple(filling))


def _lets(chart, box, filling):
    """Tell whether a box lets a filling of all wires."""
    takes = worths_at(chart, filling, [name for name, _ in box.takes])
    makes = worths_at(chart, filling, [name for name, _ in box.makes])
    return makes in [row for row, _ in box.made_by(takes)]


def boxes_against(chart, filling):
    """Return the numbers of all boxes that do not let a filling of all wires, ascending."""
    if not is_filling(sizes_of(chart.wires), filling):
        raise NoFilling(filling)
    return tuple([number for number, box in enumerate(chart.boxes) if not _lets(chart, box, filling)])


def story_fault(chart, ins, filling):
    """Return None for a story for the ins, otherwise the first word that applies."""
    ins = check_ins(chart, ins)
    if not is_filling(sizes_of(chart.wires), filling):
        return "filling"
    if worths_at(chart, filling, chart.ins) != ins:
        return "ins"
    return "box" if boxes_against(chart, filling) else None
