"""A bench on which a chart is changed, asked and tried."""

from alreadytold.changes import check_edits, edited_chart
from alreadytold.charts import check_ins
from alreadytold.errors import NothingLeft, StillTrial
from alreadytold.guesses import answers_of, check_manner
from alreadytold.mends import goal_holds
from alreadytold.ratios import is_whole


class Bench:
    """A chart, ins and a manner that are changed by deeds, which can be taken back.

    `deeds` keeps, for each deed that stands, the deed and (chart, ins, manner) ahead of it;
    `begun` is the number of deeds ahead of the trial that is going on, None without one.
    """

    def __init__(self, chart):
        self.chart = chart
        self.ins = tuple([0 for _ in chart.ins])
        self.manner = "story"
        self.deeds = ()
        self.begun = None

    @property
    def log(self):
        """The deeds that stand, in order."""
        return tuple([deed for deed, _ in self.deeds])

    def _note(self, deed):
        self.deeds = self.deeds + ((deed, (self.chart, self.ins, self.manner)),)

    def choose_ins(self, ins):
        """Choose the ins."""
        ins = check_ins(self.chart, ins)
        self._note(("ins", ins))
        self.ins = ins

    def choose_manner(self, manner):
        """Choose the manner."""
        manner = check_manner(manner)
        self._note(("manner", manner))
        self.manner = manner

    def change(self, edit):
        """Do an edit on the chart."""
        told = check_edits(self.chart, [edit])
        self._note(told[0])
        self.chart = edited_chart(self.chart, told)

    def ask(self):
        """Return the answers for the chart, ins and manner now."""
        return answers_of(self.chart, self.ins, self.manner)

    def holds(self, goal):
        """Tell whether a goal holds for the chart now."""
        return goal_holds(self.chart, goal)

    def take_back(self, many=1):
        """Take back the last deeds, so many, and return them in order."""
        free = len(self.deeds) - (0 if self.begun is None else self.begun)
        if not is_whole(many, 1, free):
            raise NothingLeft(many)
        kept = len(self.deeds) - many
        taken = self.log[kept:]
        self.chart, self.ins, self.manner = self.deeds[kept][1]
        self.deeds = self.deeds[:kept]
        return taken

    def trying(self, action):
        """Return what an action returns that is called with the bench, and take back all that it has done."""
        if self.begun is not None:
            raise StillTrial(len(self.deeds))
        chart, ins, manner, deeds = self.chart, self.ins, self.manner, self.deeds
        self.begun = len(deeds)
        try:
            return action(self)
        finally:
            self.chart, self.ins, self.manner = chart, ins, manner
            self.deeds = deeds
            self.begun = None
