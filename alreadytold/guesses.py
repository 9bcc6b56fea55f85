"""Answers that a chart can give, looks at them, and which charts and entries fit looks."""

from alreadytold.charts import MOST_FILLINGS, Chart, check_ins, posts_of
from alreadytold.drawing import wires_named
from alreadytold.errors import BadIns, BadLook, BadManner, BadPool, NoFilling, NoSuchBox, TooMany
from alreadytold.ratios import is_whole
from alreadytold.rings import rings_of
from alreadytold.stories import all_stories
from alreadytold.wires import count_fillings, fillings_of, is_filling, is_sequence, sizes_of
from alreadytold.working import shown_rows, worths_at

MANNERS = ("story", "ring", "slip")
MOST_LOOKS = 12
MOST_CHARTS = 5


def check_manner(manner):
    """Return a manner: story, ring or slip."""
    if not isinstance(manner, str) or manner not in MANNERS:
        raise BadManner(manner)
    return manner


def _fillings_borne(chart, ins, manner):
    """Return the fillings of all wires that can come by a right manner at right ins."""
    if manner == "story":
        return list(all_stories(chart, ins))
    posts = posts_of(chart)
    if manner == "ring":
        posts = [post for ring in rings_of(chart, ins) for post in ring]
    return [filling for post in posts for filling, _ in shown_rows(chart, ins, post)]


def outs_borne(chart, ins, manner):
    """Return, ascending, the outs that can come by a manner."""
    ins = check_ins(chart, ins)
    fillings = _fillings_borne(chart, ins, check_manner(manner))
    return tuple(sorted(set([worths_at(chart, filling, chart.outs) for filling in fillings])))


def answers_of(chart, ins, manner):
    """Return, ascending, the outs that can come by a manner, or None alone if there are none."""
    borne = outs_borne(chart, ins, manner)
    return borne if borne else (None,)


def _look_told(chart, index, look):
    """Return a look (ins, manner, answer) as tuples."""
    if not is_sequence(look, 3, 3):
        raise BadLook(index, "look")
    ins, manner, answer = look
    try:
        ins = check_ins(chart, ins)
    except BadIns:
        raise BadLook(index, "ins")
    if not isinstance(manner, str) or manner not in MANNERS:
        raise BadLook(index, "manner")
    if answer is None:
        return (ins, manner, None)
    if not is_filling(sizes_of(wires_named(chart, chart.outs)), answer):
        raise BadLook(index, "answer")
    return (ins, manner, tuple(answer))


def check_looks(chart, looks):
    """Return 0 to 12 looks as tuples."""
    if not is_sequence(looks, 0, MOST_LOOKS):
        raise BadLook(0, "many")
    return tuple([_look_told(chart, index, look) for index, look in enumerate(looks)])


def _faces(chart):
    """Return the wires of the ins and of the outs of a chart."""
    return wires_named(chart, chart.ins), wires_named(chart, chart.outs)


def check_pool(pool):
    """Return 1 to 5 charts with the same ins and outs as a tuple."""
    if not is_sequence(pool, 1, MOST_CHARTS):
        raise BadPool(0)
    for index, chart in enumerate(pool):
        if not isinstance(chart, Chart) or _faces(chart) != _faces(pool[0]):
            raise BadPool(index)
    return tuple(pool)


def _fits(chart, looks):
    """Tell whether each answer of right looks is one of the chart's answers there."""
    for ins, manner, answer in looks:
        if answer not in answers_of(chart, ins, manner):
            return False
    return True


def fitting_charts(pool, looks):
    """Return the indices of the charts of a pool that fit the looks, ascending."""
    pool = check_pool(pool)
    looks = check_looks(pool[0], looks)
    return tuple([index for index, chart in enumerate(pool) if _fits(chart, looks)])


def hidden_entries(chart, box, filling, looks):
    """Return, ascending, all rows that fit the looks as the sure entry of a box at a filling of its takes."""
    if not is_whole(box, 0, len(chart.boxes) - 1):
        raise NoSuchBox(box)
    hidden = chart.boxes[box]
    if not is_filling(hidden.take_sizes, filling):
        raise NoFilling(filling)
    if count_fillings(hidden.make_sizes) > MOST_FILLINGS:
        raise TooMany(MOST_FILLINGS)
    looks = check_looks(chart, looks)
    rows = list(fillings_of(hidden.make_sizes))
    return tuple([row for row in rows if _fits(chart.with_box(box, hidden.with_entry(filling, row)), looks)])
