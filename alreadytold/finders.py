"""Finders: posts are looked through in an order until one passes a check."""

from alreadytold.boxes import Box
from alreadytold.charts import Chart, check_ins, check_post, posts_of
from alreadytold.errors import BadFinder, BadGaps
from alreadytold.ratios import ONE, ZERO, compare, is_ratio, is_whole, make_ratio, minus, over
from alreadytold.wires import count_fillings, filling_number, fillings_of, is_order, is_sequence

LEAST_SIZE = 2
MOST_SIZE = 4
MOST_POSTS = 16


def _check_sizes(sizes, word, least):
    """Refuse what is no sequence of least to 2 sizes."""
    if not is_sequence(sizes, least, 2):
        raise BadFinder(0, word)
    for index, size in enumerate(sizes):
        if not is_whole(size, LEAST_SIZE, MOST_SIZE):
            raise BadFinder(index, word)


def _checks_told(ins, letters, checks):
    """Return the checks, for each filling of the ins a row of 1 or 0 for each post, as tuples."""
    many = count_fillings(ins)
    if not is_sequence(checks, many, many):
        raise BadFinder(0, "checks")
    many = count_fillings(letters)
    for index, row in enumerate(checks):
        if not is_sequence(row, many, many):
            raise BadFinder(index, "row")
        if [check for check in row if not is_whole(check, 0, 1)] != []:
            raise BadFinder(index, "check")
    return tuple([tuple(row) for row in checks])


def _order_told(letters, order):
    """Return an order of all post numbers, the ascending one for None."""
    many = count_fillings(letters)
    if order is None:
        return tuple(range(many))
    if not is_order(order, many):
        raise BadFinder(0, "order")
    return tuple(order)


class Finder:
    """A look for posts that pass: at each turn another post stays, or else the next one of the order comes."""

    def __init__(self, ins, letters, checks, order=None, stay=(0, 1)):
        _check_sizes(ins, "ins", 0)
        _check_sizes(letters, "letters", 1)
        self.ins = tuple(ins)
        self.letters = tuple(letters)
        self.checks = _checks_told(ins, letters, checks)
        self.order = _order_told(letters, order)
        if not is_ratio(stay) or compare(stay, ZERO) < 0 or compare(stay, ONE) >= 0:
            raise BadFinder(0, "stay")
        self.stay = stay

    def __eq__(self, other):
        return (isinstance(other, Finder) and self.ins == other.ins and self.letters == other.letters
                and self.checks == other.checks and self.order == other.order and self.stay == other.stay)


def _next_numbers(finder):
    """Return for each post number that of the next post."""
    numbers = [0 for _ in finder.order]
    for place, number in enumerate(finder.order):
        numbers[number] = finder.order[(place + 1) % len(finder.order)]
    return numbers


def _finder_entries(finder):
    """Return the entries of the box: a post that passes makes itself, another one stays or makes the next one."""
    posts = list(fillings_of(finder.letters))
    leads = _next_numbers(finder)
    leave = minus(ONE, finder.stay)
    entries = []
    for row in finder.checks:
        for number, passes in enumerate(row):
            if passes == 1:
                entries.append(posts[number])
            elif finder.stay == ZERO:
                entries.append(posts[leads[number]])
            else:
                entries.append([(posts[number], finder.stay), (posts[leads[number]], leave)])
    return entries


def finder_chart(finder):
    """Return the chart of a finder: one box, which makes a post of the ins and a post."""
    ins = list(zip(("xa", "xb"), finder.ins))
    letters = list(zip(("ya", "yb"), finder.letters))
    box = Box(0, ins + letters, letters, _finder_entries(finder))
    return Chart(ins + letters, [box], [name for name, _ in letters])


def _checks_at(finder, ins):
    """Return the row of 1 or 0 for each post at these ins."""
    ins = check_ins(finder_chart(finder), ins)
    return finder.checks[filling_number(finder.ins, ins)]


def passing_posts(finder, ins):
    """Return the posts that pass, ascending."""
    row = _checks_at(finder, ins)
    return tuple([post for post, passes in zip(posts_of(finder_chart(finder)), row) if passes == 1])


def _steps_from(leads, row, number):
    """Return after how many steps a post that passes comes, and its number; some post must pass."""
    steps = 0
    while row[number] == 0:
        number = leads[number]
        steps += 1
    return steps, number


def steps_to_pass(finder, ins, post):
    """Return how many times one must go on to the next post until the post passes, None if none passes."""
    row = _checks_at(finder, ins)
    number = filling_number(finder.letters, check_post(finder_chart(finder), post))
    if 1 not in row:
        return None
    steps, _ = _steps_from(_next_numbers(finder), row, number)
    return steps


def gaps_of(finder, ins):
    """Return for each passing post, ascending, from how many posts it is the first passing one."""
    row = _checks_at(finder, ins)
    if 1 not in row:
        return ()
    leads = _next_numbers(finder)
    firsts = [_steps_from(leads, row, number)[1] for number, _ in enumerate(row)]
    return tuple([firsts.count(number) for number, passes in enumerate(row) if passes == 1])


def mean_turns(finder, ins):
    """Return the mean number of turns until a post passes, beginning in each post evenly; None if none passes."""
    gaps = gaps_of(finder, ins)
    if gaps == ():
        return None
    # A gap of g has beginnings 0 to g - 1 steps away, and each step takes 1 / (1 - stay) turns.
    steps = make_ratio(sum([gap * (gap - 1) for gap in gaps]), 2 * len(finder.order))
    return over(steps, minus(ONE, finder.stay))


def _check_gaps(many, numbers, gaps):
    if not is_whole(many, 2, MOST_POSTS):
        raise BadGaps(0, "many")
    if not is_sequence(numbers, 1, many):
        raise BadGaps(0, "numbers")
    least = 0
    for index, number in enumerate(numbers):
        if not is_whole(number, least, many - 1):
            raise BadGaps(index, "number")
        least = number + 1
    if not is_sequence(gaps, len(numbers), len(numbers)):
        raise BadGaps(0, "gaps")
    for index, gap in enumerate(gaps):
        if not is_whole(gap, 1):
            raise BadGaps(index, "gap")
    if sum(gaps) != many:
        raise BadGaps(0, "sum")


def order_with_gaps(many, numbers, gaps):
    """Return an order of so many posts in which these numbers have these gaps if just they pass."""
    _check_gaps(many, numbers, gaps)
    others = [number for number in range(many) if number not in numbers]
    order = []
    for number, gap in zip(numbers, gaps):
        order.extend(others[:gap - 1])
        order.append(number)
        others = others[gap - 1:]
    return tuple(order)


def customs_agree(finder, ins):
    """Tell whether the weighed and the seldom shares are equal."""
    row = _checks_at(finder, ins)
    gaps = gaps_of(finder, ins)
    if 0 not in row:
        return True
    if gaps == ():
        return finder.stay != ZERO
    return finder.stay == ZERO and min(gaps) == max(gaps)
