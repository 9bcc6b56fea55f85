"""Charts for the tests, and slow ways that follow the document word by word."""

import random
from fractions import Fraction
from itertools import product

from alreadytold.boxes import Box
from alreadytold.charts import Chart, all_ins, posts_of

NAMES = ["a", "b", "c", "d", "e", "f", "g", "h"]
ODD_THINGS = [None, True, False, 1, -1, 0, 2, "a", "", "ab", "12", b"a", (), [], {}, {1: 2}, set(), object(),
              (1,), [1], (1, 2), ("a", 2), ["a", 2], ("a", True), 1.0, 0.5, 10 ** 99, lambda: 0, range(2), int]


def fraction(ratio):
    return Fraction(*ratio)


def ratio(number):
    number = Fraction(number)
    return (number.numerator, number.denominator)


def fillings(sizes):
    return list(product(*[range(size) for size in sizes]))


def random_shares(rng, many, most=9):
    weights = [rng.randint(1, most) for _ in range(many)]
    return [ratio(Fraction(weight, sum(weights))) for weight in weights]


def random_entry(rng, make_sizes, chance):
    rows = fillings(make_sizes)
    if rng.random() >= chance:
        return rng.choice(rows)
    rows = rng.sample(rows, min(len(rows), rng.choice([1, 2, 2, 3])))
    return list(zip(rows, random_shares(rng, len(rows))))


def random_box(rng, wires, makes, days, chance):
    takes = rng.sample(wires, rng.randint(0, min(3, len(wires))))
    sizes = [size for _, size in takes]
    make_sizes = [size for _, size in makes]
    entries = [random_entry(rng, make_sizes, chance) for _ in fillings(sizes)]
    return Box(rng.randint(0, days), takes, makes, entries)


def random_chart(rng, chance=0.0, days=2, wires=5):
    """A chart with some letters: tries until the bounds of the document hold."""
    while True:
        told = [(name, rng.choice([2, 2, 3])) for name in rng.sample(NAMES, rng.randint(2, wires))]
        made = rng.sample(told, rng.randint(1, len(told)))
        boxes = []
        while made and len(boxes) < 6:
            many = rng.randint(1, min(2, len(made)))
            boxes.append(random_box(rng, told, made[:many], days, chance))
            made = made[many:]
        outs = [name for name, _ in rng.sample(told, rng.randint(0, min(3, len(told))))]
        try:
            return Chart(told, boxes, outs)
        except ValueError:
            continue


def small_charts(seed, many):
    """Charts with 2 to 12 posts, each with some of its ins; two of three may have chance boxes."""
    rng = random.Random(seed)
    while many:
        chart = random_chart(rng, chance=0.5 if many % 3 else 0.0)
        if 2 <= len(posts_of(chart)) <= 12:
            many -= 1
            yield rng, chart, rng.choice(all_ins(chart))


def slow_letters(chart):
    """[0.1]: taken on the day of the maker or on an earlier day."""
    letters = []
    for wire in chart.wires:
        makers = [box for box in chart.boxes if wire in box.makes]
        if makers and any(wire in box.takes and box.day <= makers[0].day for box in chart.boxes):
            letters.append(wire[0])
    return tuple(letters)


def slow_worked(chart, ins, post):
    """[0.2], [1.8]: every choice of rows for all boxes, kept where its share is above 0."""
    rows = []
    names = [name for name, _ in chart.wires]
    for chosen in product(*[fillings(box.make_sizes) for box in chart.boxes]):
        worths = dict(zip(chart.ins, ins))
        sent = {}
        for box, row in zip(chart.boxes, chosen):
            for (name, _), worth in zip(box.makes, row):
                (sent if name in chart.letters else worths)[name] = worth
        worths.update(zip(chart.letters, post))
        share = Fraction(1)
        for box, row in zip(chart.boxes, chosen):
            takes = tuple(worths[name] for name, _ in box.takes)
            share *= Fraction(*dict(box.entries[fillings(box.take_sizes).index(takes)]).get(row, (0, 1)))
        if share > 0:
            rows.append((tuple(worths[name] for name in names),
                         tuple(sent[name] for name in chart.letters), ratio(share)))
    return tuple(sorted(rows))


def slow_lets(chart, box, filling):
    worths = dict(zip([name for name, _ in chart.wires], filling))
    takes = tuple(worths[name] for name, _ in box.takes)
    makes = tuple(worths[name] for name, _ in box.makes)
    return makes in dict(box.entries[fillings(box.take_sizes).index(takes)])


def slow_stories(chart, ins):
    """[2.1], [2.2]: all fillings of all wires that every box lets, by posts, then by fillings."""
    names = [name for name, _ in chart.wires]
    found = []
    for filling in fillings([size for _, size in chart.wires]):
        worths = dict(zip(names, filling))
        if tuple(worths[name] for name in chart.ins) != tuple(ins):
            continue
        if all(slow_lets(chart, box, filling) for box in chart.boxes):
            found.append((tuple(worths[name] for name in chart.letters), filling))
    return [filling for _, filling in sorted(found)]


def slow_table(chart, ins):
    posts = fillings(chart.letter_sizes)
    table = []
    for post in posts:
        row = [Fraction(0)] * len(posts)
        for _, sent, share in slow_worked(chart, ins, post):
            row[posts.index(sent)] += Fraction(*share)
        table.append(row)
    return table


def after_turn(table, shares):
    many = len(table)
    return [sum((shares[i] * table[i][j] for i in range(many)), Fraction(0)) for j in range(many)]


def slow_reach(table):
    many = len(table)
    reach = [{i} for i in range(many)]
    for i in range(many):
        todo = [i]
        while todo:
            here = todo.pop()
            for j in range(many):
                if table[here][j] > 0 and j not in reach[i]:
                    reach[i].add(j)
                    todo.append(j)
    return reach


def slow_closed(table):
    reach = slow_reach(table)
    lots = {tuple(sorted(reach[i])) for i in range(len(table))
            if all(reach[j] == reach[i] for j in reach[i])}
    return sorted(lots)


def slow_power(table, turns):
    many = len(table)
    power = [[Fraction(i == j) for j in range(many)] for i in range(many)]
    for _ in range(turns):
        power = [after_turn(table, row) for row in power]
    return power
