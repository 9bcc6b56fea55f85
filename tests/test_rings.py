import unittest
from math import gcd

from alreadytold.boxes import Box
from alreadytold.charts import Chart, posts_of
from alreadytold.errors import BadIns, BadLot, BadPost, BadTurns, NoRing
from alreadytold.rings import (Meeting, OneRing, TwoRings, beats_of, check_lot, meeting_of, only_ring, ring_fault,
                               rings_every, rings_of, shortest_walk, turns_to_rings)
from alreadytold.stories import stories_of_post
from samples import fillings, slow_closed, slow_power, slow_reach, slow_table, small_charts

HALF = (1, 2)
A, B, C = ("a", 4), ("b", 4), ("c", 4)


def one_letter(entries):
    """A chart of one box and one letter; a tuple of worths makes an even chance of them."""
    told = [(entry,) if isinstance(entry, int) else [((worth,), (1, len(entry))) for worth in entry] for entry in entries]
    wire = ("a", len(entries))
    return Chart([wire], [Box(0, [wire], [wire], told)], ["a"])


def graph_chart(leads):
    """A chart with 64 posts at most, numbered as the numbers in leads, of one box."""
    wires = [A, B, C][:1 if len(leads) == 4 else 2 if len(leads) == 16 else 3]
    posts = fillings([4] * len(wires))
    entries = [[(posts[goal], (1, len(goals))) for goal in goals] for goals in leads]
    return Chart(wires, [Box(0, wires, wires, entries)], [])


class Results(unittest.TestCase):
    def test_equal(self):
        for kind, things in [(OneRing, (((0,),),)), (TwoRings, (((0,),), ((1,),))), (Meeting, (3, (0,)))]:
            self.assertTrue(kind(*things) == kind(*things))
            self.assertFalse(kind(*things) != kind(*things))
            for place in range(len(things)):
                other = list(things)
                other[place] = None
                self.assertTrue(kind(*things) != kind(*other))
        thing = [1]
        self.assertIs(OneRing(ring=thing).ring, thing)
        two, meeting = TwoRings(one=thing, other=None), Meeting(turns=None, post=thing)
        self.assertTrue(two.one is thing and two.other is None and meeting.turns is None and meeting.post is thing)
        self.assertNotEqual(TwoRings(1, 2), Meeting(1, 2))


class Rings(unittest.TestCase):
    def test_against_the_words(self):
        for rng, chart, ins in small_charts(61, 80):
            table = slow_table(chart, ins)
            posts = posts_of(chart)
            lots = slow_closed(table)
            rings = tuple(tuple(posts[number] for number in lot) for lot in lots)
            self.assertEqual(rings_of(chart, list(ins)), rings)
            self.assertEqual(only_ring(chart, ins), OneRing(rings[0]) if len(rings) == 1 else TwoRings(*rings[:2]))
            reach = slow_reach(table)
            common = set.intersection(*reach)
            self.assertEqual(len(rings) == 1, bool(common))
            for ring in rings:
                shuffled = list(ring) * 2
                rng.shuffle(shuffled)
                self.assertIsNone(ring_fault(chart, ins, shuffled))
                self.check_beats(chart, table, ring, beats_of(chart, ins, shuffled))
            if chart.is_sure:
                for post in posts:
                    self.assertEqual(bool(stories_of_post(chart, ins, post)), (post,) in rings)

    def check_beats(self, chart, table, ring, beats):
        posts = posts_of(chart)
        self.assertEqual(sorted(post for beat in beats for post in beat), list(ring))
        self.assertEqual(beats[0][0], ring[0])
        for place, beat in enumerate(beats):
            self.assertEqual(beat, tuple(sorted(beat)))
            for post in beat:
                goals = [posts[number] for number, share in enumerate(table[posts.index(post)]) if share > 0]
                self.assertLessEqual(set(goals), set(beats[(place + 1) % len(beats)]))
        least = posts.index(ring[0])
        lengths = 0
        for turns in range(1, 2 * len(ring) + 2):
            if slow_power(table, turns)[least][least] > 0:
                lengths = gcd(lengths, turns)
        self.assertEqual(len(beats), lengths)
        if chart.is_sure:
            self.assertEqual(len(beats), len(ring))

    def test_ring_fault(self):
        words = {}
        for rng, chart, ins in small_charts(62, 60):
            table, posts = slow_table(chart, ins), posts_of(chart)
            reach = slow_reach(table)
            for _ in range(6):
                numbers = rng.sample(range(len(posts)), rng.randint(0, len(posts)))
                fault = None
                if not numbers:
                    fault = "lot"
                elif any(table[i][j] > 0 for i in numbers for j in range(len(posts)) if j not in numbers):
                    fault = "leaves"
                elif any(j not in reach[i] for i in numbers for j in numbers):
                    fault = "parts"
                self.assertEqual(ring_fault(chart, ins, [list(posts[number]) for number in numbers]), fault)
                words[fault] = True
        self.assertEqual(set(words), {None, "lot", "leaves", "parts"})

    def test_check_lot(self):
        chart = one_letter([0, 1, 2])
        self.assertEqual(check_lot(chart, [[2], (0,), (2,)]), ((0,), (2,)))
        self.assertEqual(check_lot(chart, ()), ())
        functions = [check_lot, lambda chart, lot: shortest_walk(chart, (), (0,), lot),
                     lambda chart, lot: beats_of(chart, (), lot)]
        for function in functions:
            for index, lot in [(0, None), (0, "0"), (0, {(0,): 1}), (0, [0]), (1, [(0,), (3,), None]), (1, [(1,), (True,)]),
                               (2, ((0,), (1,), (0, 1)))]:
                with self.assertRaises(BadLot) as caught:
                    function(chart, lot)
                self.assertEqual(caught.exception.index, index)

    def test_no_ring(self):
        chart = one_letter([0, 2, 1, 0])
        for lot, told in [([], ()), ([[3]], ((3,),)), ([(2,), (2,)], ((2,),)), ([(1,), (0,), (2,)], ((0,), (1,), (2,)))]:
            with self.assertRaises(NoRing) as caught:
                beats_of(chart, (), lot)
            self.assertEqual(caught.exception.lot, told)
        self.assertEqual(beats_of(chart, (), [(2,), (1,)]), (((1,),), ((2,),)))

    def test_no_letters(self):
        chart = Chart([A], [Box(0, [], [A], [(0,)])], [])
        self.assertEqual(rings_of(chart, ()), (((),),))
        self.assertEqual(meeting_of(chart, ()), Meeting(0, ()))
        self.assertEqual(turns_to_rings(chart, ()), (0,))
        self.assertEqual(shortest_walk(chart, (), (), [()]), ((),))
        self.assertEqual(rings_every(chart, (), 10 ** 30), (((),),))

    def test_refused_ins_and_posts(self):
        chart = one_letter([0, 1, 2])
        for function in (rings_of, turns_to_rings, only_ring, meeting_of, lambda chart, ins: beats_of(chart, ins, None),
                         lambda chart, ins: rings_every(chart, ins, None), lambda chart, ins: ring_fault(chart, ins, None),
                         lambda chart, ins: shortest_walk(chart, ins, None, None)):
            with self.assertRaises(BadIns) as caught:
                function(chart, (0,))
            self.assertEqual(caught.exception.index, 0)
        with self.assertRaises(BadPost):
            shortest_walk(chart, (), (3,), None)


class Walks(unittest.TestCase):
    def test_turns_to_rings_and_shortest_walks(self):
        none = 0
        for rng, chart, ins in small_charts(63, 50):
            table, posts = slow_table(chart, ins), posts_of(chart)
            lasting = {number for lot in slow_closed(table) for number in lot}
            self.assertEqual(turns_to_rings(chart, ins), tuple(self.distance(table, number, lasting)
                                                               for number in range(len(posts))))
            goals = set(rng.sample(range(len(posts)), rng.randint(0, 2)))
            for number, post in enumerate(posts):
                walk = shortest_walk(chart, list(ins), list(post), [list(posts[goal]) for goal in goals])
                self.assertEqual(walk, self.least_walk(table, posts, number, goals))
                none += walk is None
        self.assertGreater(none, 5)

    def distance(self, table, number, goals):
        now = {number}
        for turns in range(len(table) + 1):
            if now & goals:
                return turns
            now = {j for i in now for j in range(len(table)) if table[i][j] > 0}
        return None

    def least_walk(self, table, posts, number, goals):
        turns = self.distance(table, number, goals)
        if turns is None:
            return None
        walks = [(number,)]
        for _ in range(turns):
            walks = [walk + (j,) for walk in walks for j in range(len(table)) if table[walk[-1]][j] > 0]
        least = min(walk for walk in walks if walk[-1] in goals)
        return tuple(posts[place] for place in least)

    def test_least_of_several(self):
        chart = graph_chart([(2, 1), (3,), (3,), (3,)])
        self.assertEqual(shortest_walk(chart, (), (0,), [(3,)]), ((0,), (1,), (3,)))
        self.assertEqual(shortest_walk(chart, (), (0,), [(3,), (2,)]), ((0,), (2,)))
        self.assertEqual(shortest_walk(chart, (), (3,), [(3,), (2,)]), ((3,),))
        self.assertIsNone(shortest_walk(chart, (), (3,), [(0,)]))
        self.assertIsNone(shortest_walk(chart, (), (3,), []))
        self.assertEqual(turns_to_rings(chart, ()), (2, 1, 1, 0))


class Meetings(unittest.TestCase):
    def test_against_the_words(self):
        kinds = {}
        for _, chart, ins in small_charts(64, 80):
            table = slow_table(chart, ins)
            many = len(table)
            marks = [{number} for number in range(many)]
            found = None
            # A primitive table of so many rows has met by then.
            for turns in range(many * many + 2):
                shared = set.intersection(*marks)
                if shared:
                    found = Meeting(turns, posts_of(chart)[min(shared)])
                    break
                marks = [{j for i in mark for j in range(many) if table[i][j] > 0} for mark in marks]
            meeting = meeting_of(chart, ins)
            self.assertEqual(meeting, found)
            lots = slow_closed(table)
            beats = beats_of(chart, ins, rings_of(chart, ins)[0])
            self.assertEqual(meeting is not None, len(lots) == 1 and len(beats) == 1)
            kinds[meeting is None] = True
        self.assertEqual(len(kinds), 2)

    def test_long_way_to_meet(self):
        # Walks of 15 and 16 turns in one ring: it takes long until all can be at one post.
        leads = [(number + 1,) for number in range(15)] + [(0,)]
        leads[14] = (15, 0)
        chart = graph_chart(leads)
        meeting = meeting_of(chart, ())
        marks = [{number} for number in range(16)]
        turns = 0
        while not set.intersection(*marks):
            marks = [{lead for here in mark for lead in leads[here]} for mark in marks]
            turns += 1
        self.assertEqual(meeting, Meeting(turns, posts_of(chart)[min(set.intersection(*marks))]))
        self.assertGreater(turns, 100)

    def test_example(self):
        self.assertEqual(meeting_of(one_letter([1, 2, 2]), ()), Meeting(2, (2,)))
        self.assertIsNone(meeting_of(one_letter([1, 0]), ()))
        self.assertIsNone(meeting_of(one_letter([0, 1]), ()))
        self.assertEqual(meeting_of(one_letter([(0, 1), (0, 1)]), ()), Meeting(1, (0,)))


class Every(unittest.TestCase):
    def test_against_powers(self):
        for _, chart, ins in small_charts(65, 40):
            table, posts = slow_table(chart, ins), posts_of(chart)
            for turns in [1, 2, 3, 4, 6, 7]:
                expected = tuple(tuple(posts[number] for number in lot) for lot in slow_closed(slow_power(table, turns)))
                self.assertEqual(rings_every(chart, list(ins), turns), expected)

    def test_numbers_that_share_a_divisor(self):
        chart = graph_chart([((number + 1) % 12,) for number in range(12)] + [(13,), (12,), (15,), (14,)])
        posts = posts_of(chart)
        for turns in [1, 4, 5, 6, 8, 9, 12, 18, 10 ** 30, 10 ** 30 - 1, 3 ** 60]:
            many = gcd(turns, 12)
            lots = [tuple(posts[number] for number in range(first, 12, many)) for first in range(many)]
            for first in (12, 14):
                pair = posts[first:first + 2]
                lots += [(pair[0],), (pair[1],)] if turns % 2 == 0 else [pair]
            self.assertEqual(rings_every(chart, (), turns), tuple(lots))

    def test_the_order_is_by_least_posts(self):
        # The lots of two rings that lie between each other.
        chart = graph_chart([(2,), (3,), (0,), (1,)])
        self.assertEqual(rings_every(chart, (), 1), (((0,), (2,)), ((1,), (3,))))
        self.assertEqual(rings_every(chart, (), 2), (((0,),), ((1,),), ((2,),), ((3,),)))

    def test_refused_turns(self):
        for turns in [0, -1, 10 ** 30 + 1, True, None, "1", 1.0, (1,)]:
            with self.assertRaises(BadTurns) as caught:
                rings_every(one_letter([1, 0]), (), turns)
            self.assertEqual(caught.exception.turns, turns)


if __name__ == "__main__":
    unittest.main()
