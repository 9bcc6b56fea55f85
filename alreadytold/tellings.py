"""What stories tell of a wire, quarrels, and walks of sure boxes."""

from alreadytold.charts import all_ins, check_ins, check_post, check_sure, place_of, posts_of
from alreadytold.errors import HasStory, NoStory
from alreadytold.stories import all_stories, first_story
from alreadytold.working import worked


class Sure:
    """The one worth of a wire."""

    def __init__(self, worth):
        self.worth = worth

    def __eq__(self, other):
        return isinstance(other, Sure) and self.worth == other.worth


class Two:
    """Two stories in which a wire has unlike worths."""

    def __init__(self, one, other):
        self.one = one
        self.other = other

    def __eq__(self, other):
        return isinstance(other, Two) and self.one == other.one and self.other == other.other


class Walk:
    """Unlike posts, each sending the next; the last sends the post with the number back."""

    def __init__(self, posts, back):
        self.posts = posts
        self.back = back

    def __eq__(self, other):
        return isinstance(other, Walk) and self.posts == other.posts and self.back == other.back


def tells(chart, ins, wire):
    """Return the worths that the wire has in the stories for the ins, ascending."""
    ins = check_ins(chart, ins)
    place = place_of(chart, wire)
    return tuple(sorted(set([filling[place] for filling in all_stories(chart, ins)])))


def story_sure(chart, ins, wire):
    """Return the one worth of the wire in all stories, or two stories that differ there."""
    ins = check_ins(chart, ins)
    place = place_of(chart, wire)
    stories = list(all_stories(chart, ins))
    if not stories:
        raise NoStory(ins)
    worth = stories[0][place]
    for filling in stories:
        if filling[place] != worth:
            return Two(stories[0], filling)
    return Sure(worth)


def quarrels_of(chart):
    """Return all ins for which there is no story, ascending."""
    return tuple([ins for ins in all_ins(chart) if first_story(chart, ins) is None])


def why_quarrel(chart, ins):
    """Return (post, posts that it can send) for every post, ascending."""
    ins = check_ins(chart, ins)
    story = first_story(chart, ins)
    if story is not None:
        raise HasStory(story)
    rows = []
    for post in posts_of(chart):
        sent_posts = sorted(set([sent for _, sent, _ in worked(chart, ins, post)]))
        rows.append((post, tuple(sent_posts)))
    return tuple(rows)


def walk_from(chart, ins, post):
    """Return the walk of a chart of sure boxes from a post into a ring."""
    check_sure(chart)
    ins = check_ins(chart, ins)
    posts = []
    post = check_post(chart, post)
    while post not in posts:
        posts.append(post)
        post = worked(chart, ins, post)[0][1]
    return Walk(tuple(posts), posts.index(post))
