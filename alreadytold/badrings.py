"""The rings that are not as wished, and the posts that a wish can bear in a ring."""

from alreadytold.charts import check_ins, posts_of
from alreadytold.wishes import check_wish, has_outs, rings_against
from alreadytold.working import begun_filling


def bad_rings(chart, ins, wish):
    """Return the rings that are not as wished, in order."""
    ins = check_ins(chart, ins)
    return rings_against(chart, ins, check_wish(chart, wish))


def _fits(chart, ins, post, wish):
    """Tell whether the told ins and letters have the wished worths."""
    if wish[0] == "lot":
        return post in wish[1]
    if wish[0] != "outs":
        return True
    told = begun_filling(chart, ins, post)
    asked = [None if told[place] is None else worth for place, worth in zip(chart.places_of(chart.outs), wish[1])]
    return has_outs(chart, told, asked)


def fitting_posts(chart, ins, wish):
    """Return, ascending, the posts that the wish can bear in a ring."""
    ins = check_ins(chart, ins)
    wish = check_wish(chart, wish)
    return tuple([post for post in posts_of(chart) if _fits(chart, ins, post, wish)])
