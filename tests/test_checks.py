"""[0.8]: every function checks its parameters in their order, before it does anything else."""

import importlib
import inspect
import unittest

import test_form
from alreadytold import errors
from alreadytold.boxes import Box
from alreadytold.charts import Chart
from alreadytold.finders import Finder
from alreadytold.houses import House
from samples import ODD_THINGS

X, A = ("x", 2), ("a", 2)
# One sure box that takes its in and its letter; and the same with a chance entry.
SURE = Chart([X, A], [Box(0, [X, A], [A], [(0,), (1,), (1,), (0,)])], ["a"])
CHANCE = SURE.with_box(0, SURE.boxes[0].with_entry((0, 0), [((0,), (1, 2)), ((1,), (1, 2))]))
SEVERAL = Chart([X, A, ("b", 2)], [Box(0, [X, A], [A], [(0,)] * 4), Box(0, [A], [("b", 2)], [(0,)] * 2)], ["a"])

BAD = {"ins": "BadIns", "post": "BadPost", "goal": "BadPost", "name": "NoWire", "wire": "NoWire", "shares": "BadShares",
       "lot": "BadLot", "ring": "BadLot", "turns": "BadTurns", "slip": "BadSlip", "within": "BadNear", "told": "BadTold",
       "outs": "BadOuts", "share": "BadShare", "weights": "BadWeights", "custom": "BadCustom", "wish": "BadWish",
       "changes": "BadChanges", "manner": "BadManner", "beginnings": "BadShares", "filling": "NoFilling", "worth": "NotLeft",
       "days": "BadDays", "hand": "BadHand", "blank": "BadLetter", "day": "BadDay", "other_hand": "BadHand", "pool": "BadPool",
       "looks": "BadLook", "edits": "BadEdits"}
# What stands for a right argument, and what for a wrong one.
RIGHT = {"ins": (0,), "post": (0,), "goal": (1,), "name": "a", "wire": "a", "shares": ((1, 2), (1, 2)), "lot": [(0,)],
         "ring": [(0,)], "turns": 1, "slip": (1, 2), "within": (1, 2), "told": [], "outs": (0,), "share": (1, 2),
         "weights": ((1, 2), (1, 2)), "custom": ("seldom",), "wish": ("still",), "manner": "ring", "hand": 1, "blank": 0,
         "days": 1, "day": 0, "worth": 0, "other_hand": 0, "beginnings": None, "filling": (0, 0), "pool": [SURE, SURE],
         "looks": [], "edits": []}
# Only an in can be drawn in, and these pools are pools of edits.
RIGHT_HERE = {("drawn_in", "wire"): "x"}
RIGHT_HERE.update({(name, "pool"): [("day", 0, 0)] for name in ("find_mends", "find_spoilers", "steady_picks")})
WRONG = object()
# Functions that judge a thing do not refuse it; these words are of the thing judged, or checked otherwise.
JUDGED = {("story_fault", "filling"), ("ring_fault", "lot"), ("staying_fault", "shares"), ("way_fault", "way"),
          ("changes_fault", "changes"), ("reasons_fault", "reasons"), ("crowd_fault", "crowd"), ("plan_fault", "plan"),
          ("crowd_fault", "worth"), ("days_fault", "story"), ("endless_fault", "before"), ("endless_fault", "again")}
OTHERWISE = {("is_key", "lot"): "BadNames", ("sent_back", "lot"): "BadNames", ("keyed_stories", "lot"): "BadNames",
             ("number_of_story", "filling"): "NoStory", ("ring_fault", "lot"): "BadLot", ("single_slipped", "slip"): "BadSlip",
             ("check_goal", "goal"): "BadGoal", ("goal_holds", "goal"): "BadGoal", ("find_mends", "goal"): "BadGoal",
             ("find_spoilers", "goal"): "BadGoal", ("steady_picks", "goal"): "BadGoal", ("find_mends", "pool"): "BadEdits",
             ("find_spoilers", "pool"): "BadEdits", ("steady_picks", "pool"): "BadEdits", ("check_edits", "pool"): "BadEdits"}
ONE_BOX = ["changed_chart", "fewest_number", "fewest_changes", "changes_fault", "needed_posts", "all_fewest", "count_fewest",
           "fewest_everywhere", "granted_chart", "count_everywhere"]
SURE_ALONE = ["walk_from", "known_rounds", "known_worths", "letter_waves", "first_ungrounded", "self_made", "reasons_for",
              "reasons_fault", "least_lots", "withheld_lots", "is_key", "fewest_keys", "sent_back", "keyed_stories",
              "all_fewest", "count_fewest", "count_everywhere"]


def functions():
    for module, names in test_form.Interface.LISTED.items():
        for name in names.split():
            thing = getattr(importlib.import_module("alreadytold." + module), name)
            # worths_at takes right things alone; other charts and counts are promised to be such.
            parameters = list(inspect.signature(thing).parameters) if inspect.isfunction(thing) else ["other"]
            if name != "worths_at" and "other" not in parameters and "around" not in parameters:
                yield name, thing, parameters


def outcome(function, things):
    """The error of a call, as its class's name; a generator is asked for its first item."""
    try:
        result = function(*things)
        if inspect.isgenerator(result):
            next(result, None)
    except errors.LetterError as caught:
        return type(caught).__name__
    return None


class Checks(unittest.TestCase):
    def wrong_from(self, name, function, parameters, first, place):
        """All arguments from a place on are wrong, those ahead of it are right."""
        right = [RIGHT_HERE.get((name, parameter), RIGHT[parameter]) for parameter in parameters[1:place]]
        return outcome(function, [first] + right + [WRONG] * (len(parameters) - place))

    def check_first_wrong(self, first, name, function, parameters):
        checked = 0
        for place, parameter in enumerate(parameters):
            if place == 0 or any(ahead not in RIGHT for ahead in parameters[1:place]):
                continue
            expected = OTHERWISE.get((name, parameter), BAD.get(parameter))
            if expected is None or ((name, parameter) in JUDGED and (name, parameter) not in OTHERWISE):
                continue
            self.assertEqual(self.wrong_from(name, function, parameters, first, place), expected, (name, parameter))
            checked += 1
        return checked

    def test_charts(self):
        checked = 0
        for name, function, parameters in functions():
            if parameters[0] == "chart":
                checked += self.check_first_wrong(SURE, name, function, parameters)
        self.assertGreater(checked, 140)

    def test_houses(self):
        house = House(2, 2, ((0, 0), (0, 1), (0, 1), (1, 1)))
        checked = 0
        for name, function, parameters in functions():
            if parameters[0] == "house" and name != "alike_from":
                checked += self.check_first_wrong(house, name, function, parameters)
        self.assertGreater(checked, 30)

    def test_finders(self):
        finder = Finder([2], [2], [[0, 1], [1, 1]])
        for name, function, parameters in functions():
            if parameters[0] == "finder":
                self.check_first_wrong(finder, name, function, parameters)

    def test_pools(self):
        for name, function, parameters in functions():
            if parameters[0] == "pool":
                self.assertEqual(outcome(function, [WRONG] * len(parameters)), "BadPool", name)
                self.check_first_wrong([SURE], name, function, parameters)

    def test_ins_in_all_forms(self):
        for name, function, parameters in functions():
            if parameters[:2] != ["chart", "ins"]:
                continue
            more = [WRONG] * (len(parameters) - 2)
            for ins, index in [(None, 0), ("0", 0), ((), 0), ([2], 0), ((True,), 0), ((0, 0), 1), ([0, 5, 5], 1)]:
                with self.assertRaises(errors.BadIns, msg=name) as caught:
                    result = function(SURE, ins, *more)
                    next(result)
                self.assertEqual(caught.exception.index, index, name)

    def test_sure_boxes_go_first(self):
        found = []
        for name, function, parameters in functions():
            if parameters[0] == "chart":
                error = outcome(function, [CHANCE] + [WRONG] * (len(parameters) - 1))
                if error == "ChanceBox":
                    found.append(name)
        self.assertEqual(sorted(found), sorted(SURE_ALONE + ["check_sure"]))

    def test_one_box_goes_first(self):
        found = []
        for name, function, parameters in functions():
            if parameters[0] == "chart":
                error = outcome(function, [SEVERAL] + [WRONG] * (len(parameters) - 1))
                if error == "NotOneBox":
                    found.append(name)
        self.assertEqual(sorted(found), sorted(ONE_BOX))

    def test_odd_things_are_refused_plainly(self):
        # Wrong things of all kinds are refused by the errors of the package alone.
        for name, function, parameters in functions():
            if parameters[:2] == ["chart", "ins"] and len(parameters) == 3 and parameters[2] in BAD:
                if (name, parameters[2]) in JUDGED:
                    continue
                for thing in ODD_THINGS:
                    try:
                        result = function(SURE, (0,), thing)
                        if inspect.isgenerator(result):
                            list(result)
                    except errors.LetterError:
                        pass


if __name__ == "__main__":
    unittest.main()
