"""All errors of the package. Each stands directly under LetterError."""


class LetterError(ValueError):
    """Whatever this package refuses."""


class BadRatio(LetterError):
    """A part of a ratio is no whole number, or a bottom or a divisor is zero."""
    def __init__(self, what):
        self.what = what


class NoFilling(LetterError):
    """The thing is no filling of the sizes asked, or no number of one."""
    def __init__(self, thing):
        self.thing = thing


class BadBox(LetterError):
    """A box cannot be made of what was passed."""
    def __init__(self, index, what):
        self.index = index
        self.what = what


class BadChart(LetterError):
    """A chart cannot be made of what was passed."""
    def __init__(self, index, what):
        self.index = index
        self.what = what


class NoSuchBox(LetterError):
    """The chart has no box of this number."""
    def __init__(self, index):
        self.index = index


class NoWire(LetterError):
    """The chart has no wire of this name."""
    def __init__(self, name):
        self.name = name


class BadIns(LetterError):
    """The row is no row of worths of the ins."""
    def __init__(self, index):
        self.index = index


class BadPost(LetterError):
    """The row is no row of worths of the letters."""
    def __init__(self, index):
        self.index = index


class ChanceBox(LetterError):
    """A chart of sure boxes is asked for, and this box is not sure."""
    def __init__(self, index):
        self.index = index


class BadNaming(LetterError):
    """The pairs do not give each wire a name of its own."""
    def __init__(self, index):
        self.index = index


class BadOrder(LetterError):
    """The order does not tell each worth or place just once."""
    def __init__(self, order):
        self.order = order


class BadDays(LetterError):
    """The days are out of their limits or have the wrong form."""
    def __init__(self, days):
        self.days = days


class BadText(LetterError):
    """A row of the text of a chart is spoilt or lacks."""
    def __init__(self, row, what):
        self.row = row
        self.what = what


class TooMany(LetterError):
    """There are more things than can be gone through."""
    def __init__(self, most):
        self.most = most


class NoStory(LetterError):
    """The thing is no story or no number of one, or there is no story."""
    def __init__(self, thing):
        self.thing = thing


class HasStory(LetterError):
    """The ins have a story, so they have no quarrel."""
    def __init__(self, filling):
        self.filling = filling


class BadCounts(LetterError):
    """Counts cannot be made of what was passed."""
    def __init__(self, index, what):
        self.index = index
        self.what = what


class NoLetter(LetterError):
    """There is no letter of this name."""
    def __init__(self, name):
        self.name = name


class BadSurrounding(LetterError):
    """A wire of the surrounding does not fit the chart."""
    def __init__(self, name, what):
        self.name = name
        self.what = what


class OtherWires(LetterError):
    """Two things that are compared have other wires."""
    def __init__(self, what):
        self.what = what


class NoBox(LetterError):
    """No chart of one box can be made of this."""
    def __init__(self, what):
        self.what = what


class BadTable(LetterError):
    """The thing is no table of shares."""
    def __init__(self, index, what):
        self.index = index
        self.what = what


class BadLot(LetterError):
    """The lot holds a thing that may not stand in it."""
    def __init__(self, index):
        self.index = index


class NoRing(LetterError):
    """The lot is no ring, or no closed lot."""
    def __init__(self, lot):
        self.lot = lot


class BadTurns(LetterError):
    """The number of turns is out of its limits."""
    def __init__(self, turns):
        self.turns = turns


class BadShares(LetterError):
    """The row is no row of shares of the posts."""
    def __init__(self, index, what):
        self.index = index
        self.what = what


class BadWeights(LetterError):
    """The row is no row of weights of the rings."""
    def __init__(self, index, what):
        self.index = index
        self.what = what


class NotStaying(LetterError):
    """One turn changes the share of this post."""
    def __init__(self, post):
        self.post = post


class BadOuts(LetterError):
    """The thing is no filling of the outs."""
    def __init__(self, outs):
        self.outs = outs


class BadShare(LetterError):
    """The thing is no share, or no ratio."""
    def __init__(self, share):
        self.share = share


class BadSlip(LetterError):
    """The thing is no ratio above 0 and at most 1."""
    def __init__(self, slip):
        self.slip = slip


class BadNear(LetterError):
    """The thing is no ratio above 0."""
    def __init__(self, within):
        self.within = within


class BadTold(LetterError):
    """The couples do not tell unlike letters a worth each."""
    def __init__(self, index):
        self.index = index


class BadNames(LetterError):
    """The names are not those of unlike letters."""
    def __init__(self, index):
        self.index = index


class NotKnown(LetterError):
    """The wire is not known."""
    def __init__(self, name):
        self.name = name


class NotMade(LetterError):
    """No box makes the wire."""
    def __init__(self, name):
        self.name = name


class NotLeft(LetterError):
    """The worth is not left for the wire."""
    def __init__(self, worth):
        self.worth = worth


class NoKey(LetterError):
    """The lot of letters is no key, for at this filling not all is known."""
    def __init__(self, filling):
        self.filling = filling


class BadCustom(LetterError):
    """The thing is no custom at these ins."""
    def __init__(self, custom):
        self.custom = custom


class BadWish(LetterError):
    """The thing is no wish."""
    def __init__(self, what):
        self.what = what


class NotOneBox(LetterError):
    """The chart is not one box that takes all ins."""
    def __init__(self, what):
        self.what = what


class BadChanges(LetterError):
    """The things are no changes of the entries of the box."""
    def __init__(self, index, what):
        self.index = index
        self.what = what


class BadHouse(LetterError):
    """A house cannot be made of what was passed."""
    def __init__(self, index, what):
        self.index = index
        self.what = what


class BadHand(LetterError):
    """The house has no such hand."""
    def __init__(self, hand):
        self.hand = hand


class BadLetter(LetterError):
    """The house has no such letter."""
    def __init__(self, letter):
        self.letter = letter


class BadExchange(LetterError):
    """The orders do not tell each worth just once."""
    def __init__(self, what):
        self.what = what


class BadDay(LetterError):
    """The story has no such day."""
    def __init__(self, day):
        self.day = day


class NoDayStory(LetterError):
    """There is no story of this number."""
    def __init__(self, number):
        self.number = number


class BadRound(LetterError):
    """A round cannot be made of what was passed."""
    def __init__(self, what):
        self.what = what


class OtherLetters(LetterError):
    """The other house has letters of another size."""
    def __init__(self, size):
        self.size = size


class BadFinder(LetterError):
    """A finder cannot be made of what was passed."""
    def __init__(self, index, what):
        self.index = index
        self.what = what


class BadGaps(LetterError):
    """No order can have these gaps."""
    def __init__(self, index, what):
        self.index = index
        self.what = what


class NotIn(LetterError):
    """A box makes the wire, so it is no in."""
    def __init__(self, name):
        self.name = name


class BadManner(LetterError):
    """The thing is no manner."""
    def __init__(self, manner):
        self.manner = manner


class BadLook(LetterError):
    """The things are no looks."""
    def __init__(self, index, what):
        self.index = index
        self.what = what


class BadPool(LetterError):
    """The things are no pool of charts."""
    def __init__(self, index):
        self.index = index


class BadEdits(LetterError):
    """The edits cannot be done."""
    def __init__(self, index, what):
        self.index = index
        self.what = what


class BadGoal(LetterError):
    """The thing is no goal."""
    def __init__(self, what):
        self.what = what


class NothingLeft(LetterError):
    """So many deeds cannot be taken back."""
    def __init__(self, many):
        self.many = many


class StillTrial(LetterError):
    """A trial is going on already."""
    def __init__(self, deeds):
        self.deeds = deeds
