import unittest

from alreadytold import errors

LISTED = """BadRatio(what), NoFilling(thing), BadBox(index, what), BadChart(index, what), NoSuchBox(index),
NoWire(name), BadIns(index), BadPost(index), ChanceBox(index), BadNaming(index), BadOrder(order), BadDays(days),
BadText(row, what), TooMany(most), NoStory(thing), HasStory(filling), BadCounts(index, what), NoLetter(name),
BadSurrounding(name, what), OtherWires(what), NoBox(what), BadTable(index, what), BadLot(index), NoRing(lot),
BadTurns(turns), BadShares(index, what), BadWeights(index, what), NotStaying(post), BadOuts(outs),
BadShare(share), BadSlip(slip), BadNear(within), BadTold(index), BadNames(index), NotKnown(name), NotMade(name),
NotLeft(worth), NoKey(filling), BadCustom(custom), BadWish(what), NotOneBox(what), BadChanges(index, what),
BadHouse(index, what), BadHand(hand), BadLetter(letter), BadExchange(what), BadDay(day), NoDayStory(number),
BadRound(what), OtherLetters(size), BadFinder(index, what), BadGaps(index, what), NotIn(name), BadManner(manner),
BadLook(index, what), BadPool(index), BadEdits(index, what), BadGoal(what), NothingLeft(many),
StillTrial(deeds)"""


def listed():
    for part in LISTED.replace("\n", " ").split("), "):
        name, rest = part.rstrip(")").split("(")
        yield name, rest.split(", ")


class Errors(unittest.TestCase):
    def test_root(self):
        self.assertEqual(errors.LetterError.__bases__, (ValueError,))

    def test_all_listed(self):
        self.assertEqual(len(list(listed())), 60)
        defined = [name for name, thing in vars(errors).items() if isinstance(thing, type)]
        self.assertEqual(sorted(defined), sorted([name for name, _ in listed()] + ["LetterError"]))

    def test_each_directly_under_the_root(self):
        for name, _ in listed():
            kind = getattr(errors, name)
            self.assertEqual(kind.__bases__, (errors.LetterError,), name)
            for other, _ in listed():
                self.assertEqual(issubclass(kind, getattr(errors, other)), name == other)

    def test_attributes_by_name_and_order(self):
        for name, attributes in listed():
            things = [object() for _ in attributes]
            error = getattr(errors, name)(*things)
            self.assertEqual([getattr(error, attribute) for attribute in attributes], things, name)
            error = getattr(errors, name)(**dict(zip(attributes, things)))
            self.assertEqual(list(vars(error).values()), things, name)

    def test_huge_things_can_be_borne(self):
        for name, attributes in listed():
            things = [10 ** 6000 for _ in attributes]
            with self.assertRaises(errors.LetterError):
                raise getattr(errors, name)(*things)


if __name__ == "__main__":
    unittest.main()
