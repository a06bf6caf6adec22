"""Point 75: the graph of a story."""

from leavetaking.evenings import evenings
from leavetaking.graphs import graph_of
from leavetaking.houses import House
from leavetaking.standings import START, after_step
from leavetaking.stories import Story
from leavetaking.storysteps import story_steps

from tests.helpers import ADA, BOB, GUESTS, PromiseCase, crowd, fitting, some_stories, within

TWO = House([ADA, BOB])


def plain_graph(story):
    """The standings and arrows, read off point 75."""
    standings, arrows = [START], []
    for standing in standings:
        row = []
        for step in story_steps(story, standing):
            after = after_step(story.house, story.book, standing, step)
            if after not in standings:
                standings.append(after)
            row.append((step, standings.index(after)))
        arrows.append(tuple(row))
    return tuple(standings), tuple(arrows)


class Graphs(PromiseCase):
    def test_two_guests(self):
        graph = graph_of(Story(TWO, [BOB, ADA]))
        self.same(graph.standings, (
            (0, ()), (1, ()), (2, ()), (1, ((BOB, BOB),)), (2, ((ADA, ADA),)), (2, ((BOB, ADA),)), (2, ((BOB, BOB),)),
            (2, ((ADA, ADA), (BOB, BOB))), (2, ((ADA, BOB), (BOB, ADA))),
        ))
        self.same(graph.arrows, (
            ((("in", BOB), 1),),
            ((("in", ADA), 2), (("out", BOB, BOB), 3)),
            ((("out", ADA, ADA), 4), (("out", BOB, ADA), 5)),
            ((("in", ADA), 6),),
            ((("out", BOB, BOB), 7),),
            ((("out", ADA, BOB), 8),),
            ((("out", ADA, ADA), 7),),
            (), (),
        ))
        self.same(graph.counts, (3, 3, 2, 1, 1, 1, 1, 1, 1))

    def test_a_story_that_no_evening_fits(self):
        graph = graph_of(Story(TWO, [BOB, ADA], [("before", ("out", ADA), ("in", BOB))]))
        self.same((graph.standings, graph.arrows, graph.counts), (((0, ()),), ((),), (0,)))
        # Ways that end too early are there, too.
        graph = graph_of(Story(TWO, [BOB, ADA], [("wore", ADA, BOB), ("wore", BOB, BOB)]))
        self.same(graph.standings, ((0, ()), (1, ()), (2, ()), (1, ((BOB, BOB),)), (2, ((BOB, BOB),))))
        self.same(graph.arrows, (
            ((("in", BOB), 1),), ((("in", ADA), 2), (("out", BOB, BOB), 3)), (), ((("in", ADA), 4),), (),
        ))
        self.same(graph.counts, (0, 0, 0, 0, 0))

    def test_one_guest_and_pegs(self):
        graph = graph_of(Story(House([ADA], pegs=1), [ADA]))
        self.same(graph.counts, (1, 1, 1))
        graph = graph_of(Story(House(GUESTS, pegs=1), GUESTS))
        self.same(graph.counts, (1,) * 7)

    def test_all_small_houses(self):
        dead = 0
        for story, _ in some_stories(8):
            graph = graph_of(story)
            standings, arrows = plain_graph(story)
            self.same(graph.standings, standings)
            self.same(graph.arrows, arrows)
            dead += graph.counts[0] == 0
            fit = fitting(story)
            self.same(graph.counts[0], len(fit))
            # Each way from a standing to the end, walked one by one.
            for at, standing in enumerate(standings):
                self.same(graph.counts[at], self.ways(story, arrows, standings, at))
        self.assertGreater(dead, 10)

    def ways(self, story, arrows, standings, at):
        if len(standings[at][1]) == len(story.house):
            return 1
        return sum([self.ways(story, arrows, standings, index) for _, index in arrows[at]])

    def test_the_fields_are_there_once_made(self):
        one, two = graph_of(Story(TWO, [ADA, BOB])), graph_of(Story(TWO, [BOB, ADA], [("wore", ADA, BOB)]))
        self.assertEqual((one.counts[0], two.counts[0]), (3, 1))
        self.assertEqual(len(one.standings), len(one.arrows))
        self.assertEqual(len(two.standings), len(two.counts))

    def test_five_guests(self):
        house = crowd(5)
        for guest in house.guests:
            house = house.choosing(guest, 5)
        with within(30):
            self.same(graph_of(Story(house, house.guests)).counts[0], 50521)
            graph = graph_of(Story(crowd(5), crowd(5).guests))
        self.same(graph.counts[0], len(list(evenings(crowd(5), crowd(5).guests))))
