"""Charts for the tests, and slow ways that follow the document word by word."""

import random
from fractions import Fraction
from itertools import product

from alreadytold.boxes import Box
from alreadytold.charts import Chart, all_ins, posts_of

NAMES = ["a", "b", "c", "d", "e", "f", "g", "h"]
ODD_THINGS = [None, True, False, 1, -1, 0, 2, "a", "", "ab", "12", b"a", (), [], {}, {1: 2}, set(), object(),
              (1,), [1], (1, 2), ("a", 2), ["a", 2], ("a", True), 1.0, 0.5, 10 ** 99, lambda: 0, range(2), int]


def fraction(ratio):
    return Fraction(*ratio)


def ratio(number):
    number = Fraction(number)
    return (number.numerator, number.denominator)


def fillings(sizes):
    return list(product(*[range(size) for size in sizes]))


def random_shares(rng, many, most=9):
    weights = [rng.randint(1, most) for _ in range(many)]
    return [ratio(Fraction(weight, sum(weights))) for weight in weights]


def random_entry(rng, make_sizes, chance):
    rows = fillings(make_sizes)
    if rng.random() >= chance:
        return rng.choice(rows)
    rows = rng.sample(rows, min(len(rows), rng.choice([1, 2, 2, 3])))
    return list(zip(rows, random_shares(rng, len(rows))))


def random_box(rng, wires, makes, days, chance):
    takes = rng.sample(wires, rng.randint(0, min(3, len(wires))))
    sizes = [size for _, size in takes]
    make_sizes = [size for _, size in makes]
    entries = [random_entry(rng, make_sizes, chance) for _ in fillings(sizes)]
    return Box(rng.randint(0, days), takes, makes, entries)


def random_chart(rng, chance=0.0, days=2, wires=5):
    """A chart with some letters: tries until the bounds of the document hold."""
    while True:
        told = [(name, rng.choice([2, 2, 3])) for name in rng.sample(NAMES, rng.randint(2, wires))]
        made = rng.sample(told, rng.randint(1, len(told)))
        boxes = []
        while made and len(boxes) < 6:
            many = rng.randint(1, min(2, len(made)))
            boxes.append(random_box(rng, told, made[:many], days, chance))
            made = made[many:]
        outs = [name for name, _ in rng.sample(told, rng.randint(0, min(3, len(told))))]
        try:
            return Chart(told, boxes, outs)
        except ValueError:
            continue


def small_charts(seed, many):
    """Charts with 2 to 12 posts, each with some of its ins; two of three may have chance boxes."""
    rng = random.Random(seed)
    while many:
        chart = random_chart(rng, chance=0.5 if many % 3 else 0.0)
        if 2 <= len(posts_of(chart)) <= 12:
            many -= 1
            yield rng, chart, rng.choice(all_ins(chart))


def slow_letters(chart):
    """[0.1]: taken on the day of the maker or on an earlier day."""
    letters = []
    for wire in chart.wires:
        makers = [box for box in chart.boxes if wire in box.makes]
        if makers and any(wire in box.takes and box.day <= makers[0].day for box in chart.boxes):
            letters.append(wire[0])
    return tuple(letters)


def slow_worked(chart, ins, post):
    """[0.2], [1.8]: every choice of rows for all boxes, kept where its share is above 0."""
    rows = []
    names = [name for name, _ in chart.wires]
    for chosen in product(*[fillings(box.make_sizes) for box in chart.boxes]):
        worths = dict(zip(chart.ins, ins))
        sent = {}
        for box, row in zip(chart.boxes, chosen):
            for (name, _), worth in zip(box.makes, row):
                (sent if name in chart.letters else worths)[name] = worth
        worths.update(zip(chart.letters, post))
        share = Fraction(1)
        for box, row in zip(chart.boxes, chosen):
            takes = tuple(worths[name] for name, _ in box.takes)
            share *= Fraction(*dict(box.entries[fillings(box.take_sizes).index(takes)]).get(row, (0, 1)))
        if share > 0:
            rows.append((tuple(worths[name] for name in names),
                         tuple(sent[name] for name in chart.letters), ratio(share)))
    return tuple(sorted(rows))


def slow_lets(chart, box, filling):
    worths = dict(zip([name for name, _ in chart.wires], filling))
    takes = tuple(worths[name] for name, _ in box.takes)
    makes = tuple(worths[name] for name, _ in box.makes)
    return makes in dict(box.entries[fillings(box.take_sizes).index(takes)])


def slow_stories(chart, ins):
    """[2.1], [2.2]: all fillings of all wires that every box lets, by posts, then by fillings."""
    names = [name for name, _ in chart.wires]
    found = []
    for filling in fillings([size for _, size in chart.wires]):
        worths = dict(zip(names, filling))
        if tuple(worths[name] for name in chart.ins) != tuple(ins):
            continue
        if all(slow_lets(chart, box, filling) for box in chart.boxes):
            found.append((tuple(worths[name] for name in chart.letters), filling))
    return [filling for _, filling in sorted(found)]


def slow_table(chart, ins):
    posts = fillings(chart.letter_sizes)
    table = []
    for post in posts:
        row = [Fraction(0)] * len(posts)
        for _, sent, share in slow_worked(chart, ins, post):
            row[posts.index(sent)] += Fraction(*share)
        table.append(row)
    return table


def after_turn(table, shares):
    many = len(table)
    return [sum((shares[i] * table[i][j] for i in range(many)), Fraction(0)) for j in range(many)]


def slow_reach(table):
    many = len(table)
    reach = [{i} for i in range(many)]
    for i in range(many):
        todo = [i]
        while todo:
            here = todo.pop()
            for j in range(many):
                if table[here][j] > 0 and j not in reach[i]:
                    reach[i].add(j)
                    todo.append(j)
    return reach


def slow_closed(table):
    reach = slow_reach(table)
    lots = {tuple(sorted(reach[i])) for i in range(len(table))
            if all(reach[j] == reach[i] for j in reach[i])}
    return sorted(lots)


def slow_power(table, turns):
    many = len(table)
    power = [[Fraction(i == j) for j in range(many)] for i in range(many)]
    for _ in range(turns):
        power = [after_turn(table, row) for row in power]
    return power


def slow_solve(square, rights):
    """The columns that a square of fractions turns into the right columns, by elimination."""
    many = len(square)
    rows = [list(map(Fraction, square[i])) + [Fraction(right[i]) for right in rights] for i in range(many)]
    for place in range(many):
        pivot = next(i for i in range(place, many) if rows[i][place] != 0)
        rows[place], rows[pivot] = rows[pivot], rows[place]
        rows[place] = [number / rows[place][place] for number in rows[place]]
        for other in range(many):
            if other != place and rows[other][place] != 0:
                factor = rows[other][place]
                rows[other] = [number - factor * part for number, part in zip(rows[other], rows[place])]
    return [[rows[i][many + k] for i in range(many)] for k in range(len(rights))]


def slow_slipped(table, slip, begun):
    """[5.2]: p = e u + (1 - e) p M."""
    many = len(table)
    square = [[Fraction(i == j) - (1 - slip) * table[j][i] for j in range(many)] for i in range(many)]
    return slow_solve(square, [[slip * share for share in begun]])[0]


def slow_ends(table):
    """[5.4]: for each number the shares with which it ends in each closed lot."""
    many = len(table)
    lots = slow_closed(table)
    inside = [j for lot in lots for j in lot]
    square = [[Fraction(i == j) - (0 if i in inside else table[i][j]) for j in range(many)] for i in range(many)]
    columns = slow_solve(square, [[Fraction(i in lot) for i in range(many)] for lot in lots])
    return [[column[i] for column in columns] for i in range(many)]


def slow_own(table, lot):
    """[4.2]: the only shares in a closed lot that stay."""
    places = list(lot)
    square = [[Fraction(i == j) - table[j][i] for j in places] for i in places[:-1]] + [[Fraction(1)] * len(places)]
    found = slow_solve(square, [[Fraction(0)] * (len(places) - 1) + [Fraction(1)]])[0]
    return [found[places.index(i)] if i in places else Fraction(0) for i in range(len(table))]


def slow_changes(posts, post):
    """[5.8]: one letter has another worth."""
    return [other for other in posts if sum(a != b for a, b in zip(post, other)) == 1]


def wired(chart):
    return dict(chart.wires)


def named(chart, names):
    return tuple((name, wired(chart)[name]) for name in names)


def identity_box(wire, day=0):
    """A box that makes what it takes."""
    return Box(day, [wire], [wire], [(worth,) for worth in range(wire[1])])


def ringed_charts(seed, many):
    """Charts of one box, each with some of its ins and 2 to 12 posts, mostly with several rings."""
    rng = random.Random(seed)
    for number in range(many):
        letters = [("a", rng.choice([2, 3, 4])), ("b", rng.choice([2, 3]))][:rng.choice([1, 2, 2])]
        takes = [("x", 2)] + letters if number % 4 else letters
        entries = []
        for filling in fillings([size for _, size in takes]):
            post = filling[-len(letters):]
            entry = random_entry(rng, [size for _, size in letters], 0.5 if number % 3 else 0.0)
            entries.append(post if rng.random() < 0.3 else entry)
        chart = Chart(takes, [Box(0, takes, letters, entries)], [])
        yield rng, chart, rng.choice(all_ins(chart))


def example():
    """[5.13]: post 0 is a ring, 1 leads to 2, which is a ring."""
    wire = ("a", 3)
    return Chart([wire], [Box(0, [wire], [wire], [(0,), (2,), (2,)])], ["a"])


def most_of_three():
    """[5.13]: three letters whose boxes all make what most of the three are."""
    wires = [("a", 2), ("b", 2), ("c", 2)]
    boxes = [Box(0, wires, [wire], [(int(sum(row) > 1),) for row in fillings([2] * 3)]) for wire in wires]
    return Chart(wires, boxes, [])


def no_letters():
    wires = [("x", 2), ("a", 3)]
    return Chart(wires, [Box(0, wires[:1], wires[1:], [(0,), (2,)])], ["a"])


def agreeing(box, worths):
    """All fillings of the takes that agree with what is known, with their rows."""
    names = [name for name, _ in box.takes]
    return [(filling, box.made_by(filling)[0][0]) for filling in fillings(box.take_sizes)
            if all(worths.get(name, worth) == worth for name, worth in zip(names, filling))]


def slow_known(chart, ins, told=()):
    """[6.2] word by word: the rounds, and the known worths by names."""
    worths = {name: worth for name, worth in zip(chart.ins, ins) if worth is not None}
    worths.update(dict(told))
    rounds = [[name for name, _ in chart.wires if name in worths]]
    while True:
        new = {}
        for box in chart.boxes:
            rows = agreeing(box, worths)
            for at, (name, _) in enumerate(box.makes):
                if name not in worths and len({row[at] for _, row in rows}) == 1:
                    new[name] = rows[0][1][at]
        if not new:
            return tuple(map(tuple, rounds)), worths
        worths.update(new)
        rounds.append([name for name, _ in chart.wires if name in new])


def some_ins(rng, chart):
    return tuple(rng.choice([None, worth, worth]) for worth in rng.choice(all_ins(chart)))


def some_told(rng, chart, most=1.0):
    couples = [(name, rng.randrange(size)) for name, size in zip(chart.letters, chart.letter_sizes)
               if rng.random() < 0.4 * most]
    rng.shuffle(couples)
    return couples


def plain_box(rng, wires, makes, days):
    """A box whose entries are mostly the least, the greatest or the product of what it takes."""
    takes = rng.sample(wires, rng.randint(1, 3))
    rule = rng.choice([min, max, lambda row: row[0] * row[-1], lambda row: 0])
    rows = [tuple(min(rule(row), size - 1) for _, size in makes) for row in fillings([size for _, size in takes])]
    if rng.random() < 0.3:
        rows[rng.randrange(len(rows))] = tuple(rng.randrange(size) for _, size in makes)
    return Box(rng.randint(0, days), takes, makes, rows)


def plain_chart(rng):
    ins = [(name, rng.choice([2, 2, 3])) for name in rng.sample("pqrs", rng.randint(2, 3))]
    made = [(name, rng.choice([2, 2, 3])) for name in "abcd"[:rng.randint(2, 4)]]
    wires = ins + made
    rng.shuffle(wires)
    boxes = [plain_box(rng, wires, [wire], 2) for wire in made]
    return Chart(wires, boxes, [name for name, _ in rng.sample(wires, 2)])


def sure_charts(seed, many):
    """Charts of sure boxes in which often something is known; half of them are wild."""
    rng = random.Random(seed)
    while many:
        chart = random_chart(rng, wires=6) if many % 2 else plain_chart(rng)
        if chart.letters and len(posts_of(chart)) <= 24:
            many -= 1
            yield rng, chart


def one_box_charts(seed, many, chance=0.0):
    """Charts of one box that takes all ins, 2 to 6 posts, mostly with outs that are no letters; and some of its ins."""
    rng = random.Random(seed)
    for _ in range(many):
        letters = rng.choice([[("a", 2)], [("a", 3)], [("a", 4)], [("a", 2), ("b", 2)], [("a", 3), ("b", 2)]])
        others = rng.choice([[], [("o", 2)], [("o", 3)], [("o", 2)]])
        ins = rng.choice([[], [("x", 2)]])
        takes, makes = ins + letters, letters + others
        rng.shuffle(takes)
        rng.shuffle(makes)
        sizes = [size for _, size in makes]
        stay = rng.random() * 0.7
        entries = []
        for filling in fillings([size for _, size in takes]):
            worths = dict(zip([name for name, _ in takes], filling))
            entry = random_entry(rng, sizes, chance)
            kept = tuple(worths.get(name, rng.randrange(size)) for name, size in makes)
            entries.append(kept if rng.random() < stay else entry)
        wires = ins + letters + others
        outs = [name for name, _ in rng.sample(wires, rng.randint(0, min(2, len(wires))))]
        chart = Chart(wires, [Box(rng.randint(0, 2), takes, makes, entries)], outs)
        yield rng, chart, rng.choice(all_ins(chart))
