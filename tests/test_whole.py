"""The whole document: what it says of several modules at once, at drawn charts, ins and customs."""

import random
import unittest
from fractions import Fraction
from itertools import combinations, permutations

from alreadytold.along import exchanged_worths, ordered_chart, renamed_chart
from alreadytold.badrings import bad_rings
from alreadytold.boxed import boxed
from alreadytold.boxes import Box
from alreadytold.changes import edited_chart
from alreadytold.charts import Chart, all_ins, posts_of
from alreadytold.charttext import chart_text, read_chart
from alreadytold.customs import customs_table, shares_by, worth_shares
from alreadytold.dayings import fewest_letters, with_days
from alreadytold.dayrounds import has_story
from alreadytold.drawing import all_in, counts_of, draw_all
from alreadytold.errors import BadChart, LetterError, NoBox, NoStory
from alreadytold.fewest import NoWay, fewest_changes
from alreadytold.finders import Finder, finder_chart, passing_posts
from alreadytold.grounding import known_worths, letter_waves
from alreadytold.guesses import answers_of, fitting_charts, outs_borne
from alreadytold.housecharts import as_chart, story_filling
from alreadytold.keyed import fewest_keys, keyed_stories
from alreadytold.leastslips import last_rings
from alreadytold.lefts import left_worths
from alreadytold.manydays import all_days, count_days
from alreadytold.manyfewest import count_everywhere, granted_chart
from alreadytold.mends import find_mends, goal_holds
from alreadytold.onebox import one_box
from alreadytold.plaindays import known_on
from alreadytold.plans import surely_told, telling_ins, untold_lots
from alreadytold.rings import rings_of
from alreadytold.seldom import ring_weights, seldom
from alreadytold.single import single
from alreadytold.slips import slipped
from alreadytold.spans import outs_of, span_of_outs
from alreadytold.staying import mixture_of, own_shares, shares_stay
from alreadytold.stories import all_stories, count_stories
from alreadytold.suredays import couples_on
from alreadytold.sureouts import is_untouched, sure_everywhere, sure_outs
from alreadytold.surroundings import charts_alike, number_around
from alreadytold.tellings import Sure, quarrels_of, story_sure, tells, walk_from
from alreadytold.turning import shares_after, turning_table
from alreadytold.weighing import Nothing, back_shares, drawn_in, weighed_outs, weighed_posts, weighed_worths, weight_sum
from alreadytold.working import worked, worths_at
from house_samples import ends_of, random_houses
from samples import fraction, one_box_charts, random_chart, ratio, ringed_charts, slow_stories, small_charts, sure_charts

ONE = (1, 1)


def drawn(seed, many):
    return list(small_charts(seed, many)) + list(ringed_charts(seed, many // 2))


def customs_that_stay(chart, ins):
    rings = rings_of(chart, ins)
    first = tuple(ONE if number == 0 else (0, 1) for number in range(len(posts_of(chart))))
    return [("own", number) for number in range(len(rings))] + [("seldom",), ("single",), ("told", first)]


class StoriesAndRings(unittest.TestCase):
    def test_stories_of_sure_charts_are_the_rings_of_length_one(self):
        several = 0
        for _, chart in sure_charts(810, 60):
            for ins in all_ins(chart)[:4]:
                posts = [worths_at(chart, filling, chart.letters) for filling in all_stories(chart, ins)]
                still = [ring[0] for ring in rings_of(chart, ins) if len(ring) == 1]
                self.assertEqual(posts, still)
                self.assertEqual(weight_sum(chart, ins), (len(still), 1))
                self.assertEqual([share == ONE for share in back_shares(chart, ins, 1)],
                                 [post in still for post in posts_of(chart)])
                if still:
                    self.assertEqual(weighed_posts(chart, ins), tuple((1, len(still)) if post in still else (0, 1)
                                                                      for post in posts_of(chart)))
                else:
                    self.assertEqual(weighed_posts(chart, ins), Nothing())
                ended = [walk_from(chart, ins, post) for post in posts_of(chart)]
                self.assertEqual({walk.posts[-1] for walk in ended if walk.back == len(walk.posts) - 1}, set(still))
                self.assertEqual(ins in quarrels_of(chart), not still)
                several += len(still) > 1
        self.assertGreater(several, 5)

    def test_weights_by_turns(self):
        for _, chart, ins in drawn(811, 30):
            for number, post in enumerate(posts_of(chart)):
                begun = [ONE if place == number else (0, 1) for place in range(len(posts_of(chart)))]
                for turns in (1, 3):
                    self.assertEqual(back_shares(chart, ins, turns)[number], shares_after(chart, ins, begun, turns)[number])
                sent = [share for _, sent, share in worked(chart, ins, post) if sent == post]
                self.assertEqual(fraction(back_shares(chart, ins, 1)[number]), sum(map(fraction, sent)))

    def test_shares_that_stay(self):
        several = 0
        for _, chart, ins in drawn(812, 40):
            rings = rings_of(chart, ins)
            several += len(rings) > 1
            for custom in customs_that_stay(chart, ins):
                shares = shares_by(chart, ins, custom)
                self.assertTrue(shares_stay(chart, ins, shares))
                self.assertEqual(sum(map(fraction, mixture_of(chart, ins, shares))), 1)
            self.assertEqual(mixture_of(chart, ins, seldom(chart, ins)), ring_weights(chart, ins))
            # For every slip the ring weights are those of the beginnings.
            for slip in [(1, 3), (1, 1000)]:
                shares = slipped(chart, ins, slip)
                self.assertEqual(ring_weights(chart, ins, shares), ring_weights(chart, ins))
            weights = mixture_of(chart, ins, single(chart, ins))
            if len(rings) < 7:
                self.assertEqual(tuple(number for number, weight in enumerate(weights) if weight != (0, 1)),
                                 last_rings(chart, ins))
            # Of one ring all customs that stay are one.
            if len(rings) == 1:
                self.assertEqual({shares_by(chart, ins, custom) for custom in customs_that_stay(chart, ins)},
                                 {own_shares(chart, ins, rings[0])})
        self.assertGreater(several, 10)


class Sureness(unittest.TestCase):
    def test_what_is_known_is_the_same_in_all(self):
        many = 0
        for rng, chart in sure_charts(820, 50):
            ins = rng.choice(all_ins(chart))
            left = left_worths(chart, ins)
            for (name, size), worth, lefts in zip(chart.wires, known_worths(chart, ins), left):
                if worth is None:
                    continue
                many += name not in chart.ins
                even = tuple(ONE if other == worth else (0, 1) for other in range(size))
                self.assertEqual(lefts, (worth,))
                self.assertEqual(sure_everywhere(chart, ins, name), Sure(worth))
                for custom in customs_that_stay(chart, ins):
                    self.assertEqual(worth_shares(chart, ins, custom, name), even)
                weighed = weighed_worths(chart, ins, name)
                self.assertTrue(weighed in (Nothing(), even))
                try:
                    self.assertEqual(story_sure(chart, ins, name), Sure(worth))
                except NoStory:
                    self.assertEqual(weighed, Nothing())
                self.assertEqual(customs_table(chart, ins, name).known, worth)
        self.assertGreater(many, 30)

    def test_all_customs_and_stories_have_left_worths(self):
        for _, chart, ins in drawn(821, 30):
            left = left_worths(chart, ins)
            for (name, size), lefts in zip(chart.wires, left):
                self.assertLessEqual(set(tells(chart, ins, name)), set(lefts))
                for custom in customs_that_stay(chart, ins):
                    shares = worth_shares(chart, ins, custom, name)
                    self.assertLessEqual({worth for worth in range(size) if shares[worth] != (0, 1)}, set(lefts))

    def test_sure_in_all_customs(self):
        sure = unsure = 0
        for _, chart, ins in drawn(822, 40):
            worths = sure_outs(chart, ins)
            answers = outs_borne(chart, ins, "ring")
            for place, worth in enumerate(worths):
                shown = {outs[place] for outs in answers}
                self.assertEqual(shown == {worth}, worth is not None)
                sure += worth is not None
                unsure += worth is None
                size = dict(chart.wires)[chart.outs[place]]
                for other in range(size):
                    least = customs_table(chart, ins, chart.outs[place]).least[other]
                    self.assertEqual(least == ONE, worth == other)
            for outs in answers:
                span = span_of_outs(chart, ins, outs)
                self.assertEqual(span.least == ONE, answers == (outs,))
                self.assertGreater(fraction(span.greatest), 0)
        self.assertTrue(sure > 10 and unsure > 10)

    def test_untouched_wires(self):
        many = 0
        for _, chart, ins in drawn(823, 40):
            for name, _ in chart.wires:
                if is_untouched(chart, name):
                    many += name not in chart.ins
                    rows = {worth_shares(chart, ins, custom, name)
                            for custom in customs_that_stay(chart, ins) + [("slip", (1, 2))]}
                    self.assertEqual(len(rows), 1)
        self.assertGreater(many, 10)

    def test_all_letters_known(self):
        many = 0
        for rng, chart in sure_charts(824, 60):
            for ins in all_ins(chart)[:3]:
                waves = letter_waves(chart, ins)
                if sum(map(len, waves)) < len(chart.letters):
                    continue
                many += 1
                rings = rings_of(chart, ins)
                self.assertEqual((len(rings), len(rings[0]), count_stories(chart, ins)), (1, 1, 1))
                self.assertEqual(fewest_keys(chart, ins), ((),))
                self.assertEqual(keyed_stories(chart, ins, ()), tuple(all_stories(chart, ins)))
                goal = ("granted", ins, ("lot", rings[0]))
                self.assertTrue(goal_holds(chart, goal))
        self.assertGreater(many, 10)


class Told(unittest.TestCase):
    def test_counts_answers_and_weights(self):
        for rng, chart, _ in drawn(830, 25):
            counts = all_in(chart)
            names = rng.sample(chart.letters, len(chart.letters))
            half = len(names) // 2
            self.assertEqual(draw_all(counts_of(chart, names[:half]), names[half:]), counts)
            for ins in all_ins(chart):
                answers = outs_borne(chart, ins, "story")
                self.assertEqual(tuple(outs for told, outs, _ in counts.rows if told == ins), answers)
                self.assertEqual(sum(number for told, _, number in counts.rows if told == ins), count_stories(chart, ins))
                self.assertEqual(ins in quarrels_of(chart), answers == ())
                if chart.is_sure and answers:
                    total = count_stories(chart, ins)
                    shares = tuple((outs, ratio(Fraction(counts.number_at(ins, outs), total))) for outs in answers)
                    self.assertEqual(weighed_outs(chart, ins), shares)

    def test_charts_alike(self):
        # Sure charts with like counts give the same weighed outs and the same answers by stories.
        made = 0
        for rng, chart, _ in one_box_charts(831, 60):
            if set(chart.outs) & set(chart.ins):
                continue
            try:
                other = one_box(all_in(chart))
            except NoBox:
                continue
            made += 1
            self.assertIsNone(charts_alike(chart, other))
            if chart.outs:
                out = dict(chart.wires)[chart.outs[0]]
                wires = [(chart.outs[0], out), ("z", 2)]
                around = Chart(wires, [Box(0, wires, wires[1:], [(rng.randrange(2),) for _ in range(2 * out)])], ["z"])
                self.assertEqual(number_around(chart, around), number_around(other, around))
            self.assertEqual(untold_lots([chart, other], "story"), ((0, 1),))
            for ins in all_ins(chart):
                self.assertEqual(weighed_outs(chart, ins), weighed_outs(other, ins))
                self.assertEqual(answers_of(chart, ins, "story"), answers_of(other, ins, "story"))
        self.assertGreater(made, 10)

    def test_boxed_charts(self):
        made = 0
        for _, chart, ins in drawn(832, 40):
            try:
                one = boxed(chart)
            except NoBox:
                continue
            made += 1
            self.assertEqual(weighed_outs(one, ins), weighed_outs(chart, ins))
            self.assertEqual(weighed_posts(one, ins), weighed_posts(chart, ins))
            for manner in ("story", "ring", "slip"):
                self.assertEqual(answers_of(one, ins, manner), answers_of(chart, ins, manner))
            for custom in customs_that_stay(chart, ins) + [("slip", (2, 3))]:
                self.assertEqual(shares_by(one, ins, custom), shares_by(chart, ins, custom))
            self.assertEqual(boxed(one), one)
        self.assertGreater(made, 20)

    def test_other_names_worths_and_orders(self):
        rng = random.Random(833)
        for _, chart, ins in drawn(833, 25):
            names = [name for name, _ in chart.wires]
            new = rng.sample(["p", "q", "r", "s", "t", "u", "v", "w"], len(names))
            other = renamed_chart(chart, list(zip(names, new)))
            for manner in ("story", "ring", "slip"):
                self.assertEqual(answers_of(other, ins, manner), answers_of(chart, ins, manner))
            self.assertEqual((weighed_posts(other, ins), weighed_outs(other, ins)), (weighed_posts(chart, ins), weighed_outs(chart, ins)))
            letters = dict(zip(names, new))
            found = fewest_letters(chart)
            self.assertEqual(fewest_letters(other).letters, tuple(letters[name] for name in found.letters))
            self.assertEqual(fewest_letters(other).days, found.days)
            # Worths are called otherwise: the shares of the wire go along.
            name, size = rng.choice(chart.wires)
            order = rng.choice(list(permutations(range(size))))
            other = exchanged_worths(chart, name, order)
            told = list(ins)
            if name in chart.ins:
                told[chart.ins.index(name)] = order[told[chart.ins.index(name)]]
            before, after = weighed_worths(chart, ins, name), weighed_worths(other, told, name)
            if before == Nothing():
                self.assertEqual(after, Nothing())
            else:
                self.assertEqual([after[order[worth]] for worth in range(size)], list(before))
            self.assertEqual(weight_sum(other, told), weight_sum(chart, ins))
            # Another order of the wires: all ins and outs by name.
            places = rng.sample(range(len(names)), len(names))
            other = ordered_chart(chart, places)
            worths = dict(zip(chart.ins, ins))
            told = tuple(worths[name] for name in other.ins)
            self.assertEqual(weighed_outs(other, told), weighed_outs(chart, ins))
            self.assertEqual(answers_of(other, told, "ring"), answers_of(chart, ins, "ring"))

    def test_texts(self):
        for rng, chart, _ in drawn(834, 20):
            other = read_chart(chart_text(chart))
            self.assertEqual(fitting_charts([chart, other], [(ins, "slip", answers_of(chart, ins, "slip")[0])
                                                            for ins in all_ins(chart)[:12]]), (0, 1))


class Days(unittest.TestCase):
    def test_other_days(self):
        others = 0
        for rng, chart, ins in small_charts(840, 120):
            try:
                other = with_days(chart, [rng.randint(0, 3) for _ in chart.boxes])
            except BadChart:
                continue
            others += other.letters != chart.letters
            self.assertEqual(all_in(other), all_in(chart))
            self.assertIsNone(charts_alike(chart, other))
            self.assertEqual(quarrels_of(other), quarrels_of(chart))
            self.assertEqual(weighed_outs(other, ins), weighed_outs(chart, ins))
            self.assertEqual(outs_borne(other, ins, "story"), outs_borne(chart, ins, "story"))
            self.assertEqual(goal_holds(other, ("no quarrel",)), goal_holds(chart, ("no quarrel",)))
        self.assertGreater(others, 5)

    def test_no_letters_and_all_customs_agree(self):
        many = 0
        rng = random.Random(841)
        for _ in range(100):
            chart = random_chart(rng, chance=0.4)
            found = fewest_letters(chart)
            if found.letters:
                continue
            many += 1
            other = with_days(chart, found.days)
            ins = rng.choice(all_ins(other))
            rows = {outs_of(other, ins, shares_by(other, ins, custom))
                    for custom in customs_that_stay(other, ins) + [("slip", (1, 2))]}
            self.assertEqual(rows, {weighed_outs(other, ins)})
            self.assertEqual({outs_borne(other, ins, manner) for manner in ("story", "ring", "slip")},
                             {tuple(outs for outs, _ in weighed_outs(other, ins))})
        self.assertGreater(many, 20)


class Changed(unittest.TestCase):
    def test_changes_as_edits(self):
        # The fewest changed entries, done as edits, are the only mend among themselves.
        lengths = {}
        for rng, chart, ins in one_box_charts(850, 120):
            wish = rng.choice([("still",), ("one ring",), ("story",), ("lot", posts_of(chart)[:2]),
                               ("outs", tuple(rng.choice([None, 0, 1]) for _ in chart.outs))])
            found = fewest_changes(chart, ins, wish)
            goal = ("granted", ins, wish)
            if found == NoWay():
                self.assertFalse(goal_holds(chart, goal))
                continue
            self.assertEqual(found.number == 0, goal_holds(chart, goal))
            self.assertEqual(found.number == 0, bad_rings(chart, ins, wish) == ())
            if not 0 < found.number < 6:
                continue
            box = chart.boxes[0]
            pool = []
            for post, row in found.changes:
                worths = dict(zip(chart.ins + chart.letters, ins + post))
                pool.append(("entry", 0, tuple(worths[name] for name, _ in box.takes), row))
            self.assertTrue(goal_holds(edited_chart(chart, pool), goal))
            self.assertEqual(list(find_mends(chart, pool, goal)), [tuple(range(len(pool)))])
            lengths[len(pool)] = True
        self.assertTrue({1, 2} <= set(lengths), lengths)

    def test_no_quarrel(self):
        changed = 0
        for rng, chart, _ in one_box_charts(851, 60):
            other = granted_chart(chart, ("story",))
            self.assertEqual(quarrels_of(other), ())
            self.assertTrue(goal_holds(other, ("no quarrel",)))
            changed += other != chart
            self.assertGreater(count_everywhere(chart, ("story",)), 0)
        self.assertGreater(changed, 10)

    def test_an_edit_of_a_day_is_the_day(self):
        for rng, chart, ins in drawn(852, 30):
            number, day = rng.randrange(len(chart.boxes)), rng.randint(0, 4)
            try:
                other = edited_chart(chart, [("day", number, day)])
            except LetterError:
                continue
            self.assertEqual(other, chart.with_day(number, day))
            self.assertEqual(list(find_mends(chart, [("day", number, day)], ("no quarrel",))),
                             [()] if quarrels_of(chart) == () else [])

    def test_drawn_in(self):
        for rng, chart, _ in drawn(853, 30):
            if not chart.ins:
                continue
            name = rng.choice(chart.ins)
            size, place = dict(chart.wires)[name], chart.ins.index(name)
            try:
                other = drawn_in(chart, name, [(1, size)] * size)
            except BadChart:
                continue
            # With all worths drawn the stories are those of all worths.
            for ins in all_ins(other):
                stories = [filling for worth in range(size)
                           for filling in slow_stories(chart, ins[:place] + (worth,) + ins[place:])]
                self.assertEqual(sorted(all_stories(other, ins)), sorted(stories))


class Houses(unittest.TestCase):
    def test_charts_of_houses(self):
        quarrels = known_all = 0
        for rng, house in random_houses(860, 40):
            days = rng.randint(1, 4 if house.letter_size == 2 else 3)
            chart = as_chart(house, days)
            for hand, blank in ends_of(house):
                ins = (hand, blank)
                many = count_days(house, days, hand, blank)
                self.assertEqual(count_stories(chart, ins), many)
                self.assertEqual(has_story(house, days, hand, blank), ins not in quarrels_of(chart))
                quarrels += not many
                # What becomes known in the house is what is known in the chart.
                known = known_on(house, days, hand, blank)
                self.assertEqual(story_filling(known), known_worths(chart, ins))
                known_all += None not in story_filling(known)
                for day in range(days + 1):
                    couples = couples_on(house, days, hand, blank, day)
                    for place, names in enumerate("hy"):
                        name = names + "abcdef"[day]
                        self.assertEqual(tuple(sorted({couple[place] for couple in couples})), tells(chart, ins, name))
                if many:
                    first = next(iter(all_days(house, days, hand, blank)))
                    self.assertGreater(fraction(dict(weighed_outs(chart, ins))[(first[-1][0], first[0][1])]), 0)
        self.assertTrue(quarrels > 20 and known_all > 20)

    def test_charts_of_mirrored_houses(self):
        for _, house in random_houses(861, 20):
            one, other = as_chart(house, 2), as_chart(house.mirrored(), 2)
            for hand, blank in ends_of(house):
                stories = {tuple(reversed(filling)) for filling in all_stories(one, (hand, blank))}
                self.assertEqual({filling for filling in all_stories(other, (blank, hand))}, stories)


class FindersAndGuesses(unittest.TestCase):
    def test_answers_of_finders(self):
        rng = random.Random(870)
        for _ in range(40):
            checks = [[rng.randint(0, 1) for _ in range(6)] for _ in range(2)]
            finder = Finder([2], [2, 3], checks, rng.sample(range(6), 6), rng.choice([(0, 1), (1, 4)]))
            chart = finder_chart(finder)
            for ins in all_ins(chart):
                passing = passing_posts(finder, ins)
                self.assertEqual(outs_borne(chart, ins, "ring"), passing or posts_of(chart))
                rings = turning_table(chart, ins)
                self.assertEqual(len(rings), 6)
                stories = passing if finder.stay == (0, 1) else posts_of(chart)
                self.assertEqual(outs_borne(chart, ins, "story"), stories)
                self.assertEqual(outs_borne(chart, ins, "slip"), posts_of(chart))
            # Finders whose checks are not the same at some ins are told by what passes there.
            other = finder_chart(Finder([2], [2, 3], [[1 - check for check in row] for row in checks]))
            parted = [ins for ins in all_ins(chart) if not set(answers_of(chart, ins, "ring")) & set(answers_of(other, ins, "ring"))]
            self.assertEqual(surely_told([chart, other], "ring"), bool(parted))
            self.assertEqual(telling_ins([chart, other], "ring"), (parted[0],) if parted else None)

    def test_answers_in_all_pools(self):
        for rng, chart, _ in drawn(871, 15):
            other = read_chart(chart_text(chart))
            self.assertEqual(untold_lots([chart, other, chart], "slip"), ((0, 1, 2),))
            for one, two in combinations(["story", "slip"], 2):
                for ins in all_ins(chart):
                    self.assertLessEqual(set(outs_borne(chart, ins, one)), set(outs_borne(chart, ins, two)))


if __name__ == "__main__":
    unittest.main()
