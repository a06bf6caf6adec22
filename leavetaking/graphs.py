"""All standings of the evenings that fit a story, and the ways between them (point 75)."""

from leavetaking.standings import START, moved
from leavetaking.storysteps import story_steps


class Graph:
    """The standings of a story, the steps from each of them, and the number of ways from each of them to the end."""

    def __init__(self, standings, arrows, counts):
        self.standings = standings
        self.arrows = arrows
        self.counts = counts


def graph_of(story):
    """The graph of the story."""
    standings = [START]
    places = {START: 0}
    arrows = []
    at = 0
    while at < len(standings):
        standing = standings[at]
        further = []
        for step in story_steps(story, standing):
            after = moved(story.house, standing, step)
            if after not in places:
                places[after] = len(standings)
                standings.append(after)
            further.append((step, places[after]))
        arrows.append(tuple(further))
        at += 1
    return Graph(tuple(standings), tuple(arrows), _ways_from(story.house, standings, arrows))


def _ways_from(house, standings, arrows):
    """For each standing the number of ways from it to the end."""
    counts = [0] * len(standings)
    # Each step leads to a standing that stands further behind, because it was found with one more step.
    for at in reversed(range(len(standings))):
        if is_over(house, standings[at]):
            counts[at] = 1
        else:
            counts[at] = sum([counts[index] for _, index in arrows[at]])
    return tuple(counts)


def is_over(house, standing):
    """Whether all guests have left."""
    _, gone = standing
    return len(gone) == len(house)
