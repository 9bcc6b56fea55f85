import random
import unittest
from fractions import Fraction

from alreadytold.boxes import Box
from alreadytold.charts import Chart, all_ins, posts_of
from alreadytold.errors import BadChart, BadIns, BadShares, BadTurns, NoFilling, NotIn, NoWire
from alreadytold.rings import rings_of
from alreadytold.seldom import seldom
from alreadytold.spans import outs_of
from alreadytold.weighing import (Nothing, back_shares, drawn_in, same_as_seldom, weighed_chart, weighed_outs,
                                  weighed_posts, weighed_worths, weight_of, weight_sum)
from samples import (ODD_THINGS, fillings, fraction, identity_box, no_letters, random_chart, ratio, ringed_charts,
                     slow_power, slow_stories, slow_table, small_charts)

X, A, B, C = ("x", 2), ("a", 2), ("b", 3), ("c", 2)
HALF = (1, 2)
QUARREL = Chart([A], [Box(0, [A], [A], [(1,), (0,)])], ["a"])


def slow_weight(chart, ins, filling):
    """[9.5]: the product of the shares with which the boxes make their makes of their takes."""
    worths = dict(zip([name for name, _ in chart.wires], filling))
    if tuple(worths[name] for name in chart.ins) != tuple(ins):
        return Fraction(0)
    weight = Fraction(1)
    for box in chart.boxes:
        takes = tuple(worths[name] for name, _ in box.takes)
        made = tuple(worths[name] for name, _ in box.makes)
        entry = dict(box.entries[fillings(box.take_sizes).index(takes)])
        weight *= Fraction(*entry.get(made, (0, 1)))
    return weight


def slow_weighed(chart, ins, key):
    """[9.6]: each story counts with its weight over the weight sum."""
    parts = {}
    for filling in slow_stories(chart, ins):
        told = key(filling)
        parts[told] = parts.get(told, 0) + slow_weight(chart, ins, filling)
    total = sum(parts.values())
    return {told: ratio(part / total) for told, part in parts.items()}


def by_names(chart, names):
    places = [[wire[0] for wire in chart.wires].index(name) for name in names]
    return lambda filling: tuple(filling[place] for place in places)


def drawn_charts(seed, many):
    return list(small_charts(seed, many)) + list(ringed_charts(seed, many // 2))


class Weights(unittest.TestCase):
    def refuse(self, kind, told, function, *things):
        with self.assertRaises(kind) as caught:
            function(*things)
        self.assertEqual(list(vars(caught.exception).values()), list(told), things)

    def test_weights_of_all_fillings(self):
        above = 0
        for _, chart, ins in drawn_charts(720, 24):
            stories = slow_stories(chart, ins)
            for filling in fillings([size for _, size in chart.wires]):
                weight = slow_weight(chart, ins, filling)
                self.assertEqual(weight_of(chart, list(ins), list(filling)), ratio(weight))
                self.assertEqual(weight > 0, filling in stories)
                above += 0 < weight < 1
        self.assertGreater(above, 20)

    def test_sum(self):
        for _, chart, ins in drawn_charts(721, 40):
            total = sum(slow_weight(chart, ins, filling) for filling in slow_stories(chart, ins))
            table = slow_table(chart, ins)
            self.assertEqual(weight_sum(chart, list(ins)), ratio(total))
            self.assertEqual(total, sum(table[number][number] for number in range(len(table))))
        self.assertEqual(weight_sum(QUARREL, ()), (0, 1))
        self.assertEqual(weight_sum(no_letters(), (1,)), (1, 1))

    def test_days_do_not_matter(self):
        moved = 0
        for rng, chart, ins in drawn_charts(722, 30):
            for _ in range(4):
                try:
                    other = chart.with_day(rng.randrange(len(chart.boxes)), rng.randint(0, 9))
                except BadChart:
                    continue
                moved += other.letters != chart.letters
                self.assertEqual(weight_sum(other, ins), weight_sum(chart, ins))
                self.assertEqual(weighed_outs(other, ins), weighed_outs(chart, ins))
        self.assertGreater(moved, 5)

    def test_errors(self):
        for function, more in [(weight_of, (None,)), (weight_sum, ()), (back_shares, (None,)), (weighed_posts, ()),
                               (weighed_outs, ()), (weighed_worths, (None,))]:
            for ins, index in [(None, 0), ((), 0), ((2,), 0), ((0, 0), 1), ((True,), 0)]:
                self.refuse(BadIns, (index,), function, no_letters(), ins, *more)
        for thing in ODD_THINGS + [(0, 3), (2, 0), (0, 0, 0), (0, True), "00", (0,)]:
            if thing not in ((1, 2), [1, 2]):
                self.refuse(NoFilling, (thing,), weight_of, no_letters(), (0,), thing)
        for thing in ODD_THINGS + ["b", "A"]:
            if thing != "a":
                self.refuse(NoWire, (thing,), weighed_worths, QUARREL, (), thing)

    def test_back_shares(self):
        for rng, chart, ins in drawn_charts(723, 16):
            table = slow_table(chart, ins)
            for turns in (1, 2, 3, rng.randint(4, 12)):
                power = slow_power(table, turns)
                self.assertEqual(back_shares(chart, list(ins), turns),
                                 tuple(ratio(power[number][number]) for number in range(len(table))))
            self.assertEqual(sum(map(fraction, back_shares(chart, ins, 1))), fraction(weight_sum(chart, ins)))

    def test_back_shares_of_sure_charts(self):
        rng = random.Random(724)
        found = {}
        for number in range(60):
            chart = random_chart(rng, wires=5)
            ins = rng.choice(all_ins(chart))
            if len(posts_of(chart)) > 16:
                continue
            lengths = {post: len(ring) for ring in rings_of(chart, ins) for post in ring}
            for turns in range(1, 13):
                expected = tuple((1, 1) if turns % lengths.get(post, 99) == 0 else (0, 1) for post in posts_of(chart))
                self.assertEqual(back_shares(chart, ins, turns), expected)
            found.update({length: True for length in lengths.values()})
        self.assertTrue({1, 2} <= set(found))

    def test_bad_turns(self):
        for turns in [thing for thing in ODD_THINGS if not (type(thing) is int and 1 <= thing <= 12)] + [0, 13, -1]:
            self.refuse(BadTurns, (turns,), back_shares, QUARREL, (), turns)
        self.refuse(BadIns, (0,), back_shares, no_letters(), (), 13)
        self.assertEqual(back_shares(QUARREL, (), 12), ((1, 1), (1, 1)))


class Weighed(unittest.TestCase):
    refuse = Weights.refuse

    def test_posts_outs_and_worths(self):
        nothing = several = 0
        for _, chart, ins in drawn_charts(730, 60):
            stories = slow_stories(chart, ins)
            if not stories:
                nothing += 1
                for found in [weighed_posts(chart, ins), weighed_outs(chart, ins)] + [
                        weighed_worths(chart, ins, name) for name, _ in chart.wires]:
                    self.assertIsInstance(found, Nothing)
                continue
            posts = slow_weighed(chart, ins, by_names(chart, chart.letters))
            self.assertEqual(weighed_posts(chart, list(ins)), tuple(posts.get(post, (0, 1)) for post in posts_of(chart)))
            outs = slow_weighed(chart, ins, by_names(chart, chart.outs))
            self.assertEqual(weighed_outs(chart, list(ins)), tuple(sorted(outs.items())))
            several += len(outs) > 1
            for name, size in chart.wires:
                worths = slow_weighed(chart, ins, by_names(chart, [name]))
                self.assertEqual(weighed_worths(chart, list(ins), name),
                                 tuple(worths.get((worth,), (0, 1)) for worth in range(size)))
        self.assertTrue(nothing > 3 and several > 10, (nothing, several))

    def test_posts_by_the_table(self):
        for _, chart, ins in drawn_charts(731, 30):
            back = [fraction(share) for share in back_shares(chart, ins, 1)]
            found = weighed_posts(chart, ins)
            if sum(back):
                self.assertEqual(found, tuple(ratio(share / sum(back)) for share in back))
            else:
                self.assertEqual(found, Nothing())

    def test_nothing(self):
        self.assertTrue(Nothing() == Nothing())
        self.assertFalse(Nothing() != Nothing())
        self.assertEqual(vars(Nothing()), {})
        for thing in (None, (), 0, False):
            self.assertTrue(Nothing() != thing)
        self.assertEqual(weighed_worths(QUARREL, (), "a"), Nothing())

    def test_same_as_seldom(self):
        found = {}
        for _, chart, _ in drawn_charts(732, 60):
            first = None
            for ins in all_ins(chart):
                weighed = weighed_outs(chart, ins)
                if weighed == Nothing() or weighed != outs_of(chart, ins, seldom(chart, ins)):
                    first = ins
                    break
            self.assertEqual(same_as_seldom(chart), first)
            found[None if first is None else all_ins(chart).index(first) > 0] = True
        self.assertEqual(set(found), {None, False, True})
        self.assertEqual(same_as_seldom(QUARREL), ())
        self.assertIsNone(same_as_seldom(no_letters()))
        # A quarrel counts though nothing is shown.
        self.assertEqual(same_as_seldom(QUARREL.with_outs([])), ())

    def test_weighed_chart(self):
        rng = random.Random(733)
        for _ in range(120):
            many = rng.randint(2, 4)
            weights = [rng.choice([0, 0, 1, 2, 3, 10 ** 30]) for _ in range(many)]
            if not sum(weights):
                continue
            shares = [ratio(Fraction(weight, sum(weights))) for weight in weights]
            chart = weighed_chart(shares)
            self.assertEqual((chart.wires, chart.outs), ((("y", many),), ("y",)))
            self.assertEqual((len(chart.boxes), chart.boxes[0].day), (1, 0))
            self.assertEqual((chart.boxes[0].takes, chart.boxes[0].makes), (chart.wires, chart.wires))
            greatest = max(weights)
            for worth, weight in enumerate(weights):
                following = (worth + 1) % many
                kept = Fraction(weight, greatest)
                parts = [((worth,), ratio(kept)), ((following,), ratio(1 - kept))]
                self.assertEqual(chart.boxes[0].entries[worth], tuple(sorted(part for part in parts if part[1] != (0, 1))))
            self.assertEqual(weighed_posts(chart, ()), tuple(shares))
            self.assertEqual(weighed_worths(chart, (), "y"), tuple(shares))

    def test_bad_shares_of_a_weighed_chart(self):
        for shares in [thing for thing in ODD_THINGS if not (isinstance(thing, (list, tuple)) and len(thing) == 2)] + [
                [(1, 1)], [(1, 5)] * 5, "ab", {HALF: 1, (1, 3): 2}]:
            self.refuse(BadShares, (0, "many"), weighed_chart, shares)
        for thing in ODD_THINGS + [(2, 4), [1, 2], (1, 0), (1.0, 2)]:
            if thing != (1, 2):
                self.refuse(BadShares, (1, "ratio"), weighed_chart, [HALF, thing, (-1, 2)])
        self.refuse(BadShares, (0, "less"), weighed_chart, [(-1, 2), None])
        self.refuse(BadShares, (1, "less"), weighed_chart, [HALF, (-1, 2), (1, 1)])
        for shares in ([HALF, (1, 3)], [HALF, HALF, HALF], [(0, 1)] * 4, [(3, 1), (0, 1)]):
            self.refuse(BadShares, (0, "sum"), weighed_chart, shares)


class DrawnIn(unittest.TestCase):
    refuse = Weights.refuse

    def test_sums_over_the_worths(self):
        nothing = drawn = letters = 0
        for rng, chart, _ in drawn_charts(740, 60):
            if not chart.ins:
                continue
            name = rng.choice(chart.ins)
            size = dict(chart.wires)[name]
            weights = [rng.choice([0, 1, 2, 5]) for _ in range(size)]
            weights[rng.randrange(size)] += 1
            shares = [Fraction(weight, sum(weights)) for weight in weights]
            try:
                new = drawn_in(chart, name, list(map(ratio, shares)))
            except BadChart:
                continue
            drawn += 1
            letters += name in new.letters
            self.assertEqual((new.wires, new.outs, new.boxes[:-1]), (chart.wires, chart.outs, chart.boxes))
            entry = [((worth,), ratio(share)) for worth, share in enumerate(shares) if share]
            self.assertEqual(new.boxes[-1], Box(0, [], [(name, size)], [entry]))
            place = chart.ins.index(name)
            for ins in all_ins(new):
                olds = [ins[:place] + (worth,) + ins[place:] for worth in range(size)]
                sums = [fraction(weight_sum(chart, old)) for old in olds]
                whole = sum(share * part for share, part in zip(shares, sums))
                self.assertEqual(weight_sum(new, ins), ratio(whole))
                found = weighed_outs(new, ins)
                if whole == 0:
                    nothing += 1
                    self.assertEqual(found, Nothing())
                    continue
                parts = {}
                for old, share, part in zip(olds, shares, sums):
                    for outs, weighed in (weighed_outs(chart, old) if part else ()):
                        parts[outs] = parts.get(outs, 0) + share * part * fraction(weighed) / whole
                self.assertEqual(found, tuple((outs, ratio(parts[outs])) for outs in sorted(parts) if parts[outs]))
        self.assertTrue(drawn > 20 and nothing > 2 and letters > 10, (drawn, nothing, letters))

    def test_an_in_that_leads_to_quarrels_alone(self):
        # At x 1 there is no story; so x 1 never comes, though it is nearly all that is drawn.
        chart = Chart([X, A], [Box(0, [X, A], [A], [(0,), (1,), (1,), (0,)])], ["x"])
        new = drawn_in(chart, "x", [(1, 100), (99, 100)])
        self.assertEqual(weighed_outs(new, ()), (((0,), (1, 1)),))
        self.assertEqual(weighed_worths(new, (), "x"), ((1, 1), (0, 1)))
        self.assertEqual(weighed_worths(drawn_in(chart, "x", [(0, 1), (1, 1)]), (), "x"), Nothing())
        self.assertTrue(drawn_in(chart, "x", [(0, 1), (1, 1)]).is_sure)

    def test_errors_in_their_order(self):
        chart = Chart([X, A, B], [Box(0, [X, A], [A], [(0,)] * 4)], [])
        for name in ODD_THINGS + ["c"]:
            if name != "a":
                self.refuse(NoWire, (name,), drawn_in, chart, name, None)
        self.refuse(NotIn, ("a",), drawn_in, chart, "a", None)
        for shares in [thing for thing in ODD_THINGS if not (isinstance(thing, (list, tuple)) and len(thing) == 3)] + [[HALF, HALF]]:
            self.refuse(BadShares, (0, "many"), drawn_in, chart, "b", shares)
        self.refuse(BadShares, (2, "ratio"), drawn_in, chart, "b", [HALF, HALF, None])
        self.refuse(BadShares, (0, "less"), drawn_in, chart, "b", [(-1, 2), HALF, None])
        self.refuse(BadShares, (0, "sum"), drawn_in, chart, "b", [HALF, HALF, HALF])
        # The new chart is refused as the constructor does.
        full = Chart([X] + [(name, 2) for name in "abcdef"], [identity_box((name, 2)) for name in "abcdef"], [])
        self.refuse(BadShares, (0, "sum"), drawn_in, full, "x", [HALF, (1, 3)])
        self.refuse(BadChart, (0, "boxes"), drawn_in, full, "x", [HALF, HALF])
        wires = [("x", 2)] + [(name, 4) for name in "abc"]
        wide = Chart(wires, [Box(0, wires, wires[1:], [(0, 0, 0)] * 128)], [])
        self.refuse(BadChart, (0, "post"), drawn_in, wide, "x", [HALF, HALF])
        halves = [((0,), HALF), ((1,), HALF)]
        rows = [Box(0, [], [(name, 2)], [halves]) for name in "abcd"] + [
            Box(0, [], [("e", 4)], [[((worth,), (1, 4)) for worth in range(4)]])]
        many = Chart([X] + [(name, 2) for name in "abcd"] + [("e", 4)], rows, [])
        self.refuse(BadChart, (0, "rows"), drawn_in, many, "x", [HALF, HALF])

    def test_an_in_that_no_box_takes(self):
        chart = Chart([X, A], [identity_box(A)], ["x", "a"])
        new = drawn_in(chart, "x", [(1, 4), (3, 4)])
        self.assertEqual((new.ins, new.letters), ((), ("a",)))
        self.assertEqual(weighed_outs(new, ()), (((0, 0), (1, 8)), ((0, 1), (1, 8)), ((1, 0), (3, 8)), ((1, 1), (3, 8))))


if __name__ == "__main__":
    unittest.main()
