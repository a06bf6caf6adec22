"""The examples of the interface, as they stand in the document."""

import doctest
import unittest

EXAMPLES = {
    "houses": """
>>> from leavetaking.houses import House
>>> house = House(["ada", "bob", "cleo"]).liking("bob", [1, 1, 5])
>>> [house.taste("ada"), house.better("ada", "cleo"), house.better("bob", "ada"), house.depth("bob"), len(house)]
[(3, 2, 1), ('ada', 'bob'), ('cleo',), 1, 3]
""",
    "standings": """
>>> from leavetaking.houses import House
>>> from leavetaking.standings import next_steps
>>> next_steps(House(["ada", "bob"]), ["ada", "bob"], (2, ()))
(('out', 'ada', 'ada'), ('out', 'bob', 'ada'))
""",
    "evenings": """
>>> from leavetaking.houses import House
>>> from leavetaking.evenings import evenings, row_of
>>> [row_of(evening) for evening in evenings(House(["ada", "bob"]), ["ada", "bob"])]
[(('ada', 'ada'), ('bob', 'bob')), (('bob', 'ada'), ('ada', 'bob')), (('ada', 'ada'), ('bob', 'bob'))]
""",
    "facts": """
>>> from leavetaking.facts import contrary
>>> [contrary(("before", ("in", "ada"), ("out", "bob"))), contrary(("chose", "ada", 2))]
[('before', ('out', 'bob'), ('in', 'ada')), ('settled', 'ada', 2)]
""",
    "choices": """
>>> from leavetaking.houses import House
>>> from leavetaking.choices import choices
>>> house = House(["ada", "bob"])
>>> choices(house, ["bob", "ada"], ("hung", ("out", "bob"), 1, ["ada", "bob"]))
((('before', ('in', 'ada'), ('out', 'bob')),), (('before', ('in', 'bob'), ('out', 'bob')), ('before', ('out', 'bob'), ('out', 'ada'))))
>>> [choices(house, ["bob", "ada"], ("wore", "ada", "bob")), choices(house, ["bob", "ada"], ("spared", "ada", "bob"))]
[((),), ()]
""",
    "bars": """
>>> from leavetaking.houses import House
>>> from leavetaking.cases import Case
>>> from leavetaking.bars import bars
>>> case = Case(House(["ada", "bob"]), ["ada", "bob"], ["bob", "ada"], [("after", ("out", "ada"), 1, [("out", "bob")])])
>>> [bars(case, 1, [], ("out", "ada")), bars(case, 2, [], ("out", "ada")), bars(case, 2, ["bob"], ("out", "ada"))]
[(('cloak',), ('depth',), ('fact', 0)), (('depth',), ('fact', 0)), ()]
""",
    "casework": """
>>> from leavetaking.houses import House
>>> from leavetaking.stories import Story
>>> from leavetaking.claims import Claim
>>> from leavetaking.casework import refutation
>>> story = Story(House(["ada", "bob"]), ["ada", "bob"], [("wore", "bob", "ada")])
>>> refutation(story, Claim.of(("before", ("out", "ada"), ("in", "bob"))))
((('bob', 'ada'), (('before', ('out', 'ada'), ('in', 'bob')),), (None, None), 1),)
""",
    "rowbounds": """
>>> from leavetaking.houses import House
>>> from leavetaking.rowbounds import row_bounds, row_conflict
>>> house = House(["ada", "bob"])
>>> row_bounds(house, ["ada", "bob"], [("bob", "ada"), ("ada", "bob")])
((2, 2), (2, 2))
>>> [row_bounds(house, ["ada", "bob"], [("bob", "bob"), ("ada", "ada")]), row_conflict(house, ["ada", "bob"], [("bob", "bob"), ("ada", "ada")])]
[((2, 0), (1, 2)), (0, 0)]
""",
    "peeling": """
>>> from leavetaking.seen import Seen
>>> from leavetaking.peeling import peel
>>> peel(Seen(["ada", "bob"], [("ada", "bob", ("ada", "bob"))], [1, 1])).order
('bob', 'ada')
>>> peel(Seen(["ada", "bob"], [("ada", "bob", ("ada", "bob"))], [1, 1], [("ada", "bob")])).left
('ada', 'bob')
""",
    "graphs": """
>>> from leavetaking.houses import House
>>> from leavetaking.stories import Story
>>> from leavetaking.graphs import graph_of
>>> graph = graph_of(Story(House(["ada"]), ["ada"]))
>>> [graph.standings, graph.arrows, graph.counts]
[((0, ()), (1, ()), (1, (('ada', 'ada'),))), (((('in', 'ada'), 1),), ((('out', 'ada', 'ada'), 2),), ()), (1, 1, 1)]
""",
    "chances": """
>>> from leavetaking.houses import House
>>> from leavetaking.stories import Story
>>> from leavetaking.claims import Claim
>>> from leavetaking.chances import odds, story_chance
>>> story = Story(House(["ada", "bob"]), ["ada", "bob"])
>>> [story_chance(story.told(("wore", "ada", "ada"))), odds(story.told(("before", ("in", "bob"), ("out", "ada"))), Claim.of(("wore", "ada", "ada")))]
[(3, 4), (1, 2)]
""",
    "solving": """
>>> from leavetaking.houses import House
>>> from leavetaking.claims import Claim
>>> from leavetaking.games import Game
>>> from leavetaking.solving import solve
>>> outcome = solve(Game(House(["ada"]), ["ada"], ["ada"], Claim.of(("wore", "ada", "ada"))))
>>> [outcome.winner, outcome.table]
['host', ((((0, ()), (None,), 'host'), None), (((1, ()), (None,), 'host'), ('out', 'ada', 'ada')))]
""",
    "longevenings": """
>>> from leavetaking.houses import House
>>> from leavetaking.customs import Custom
>>> from leavetaking.longevenings import reached
>>> reached(Custom(House(["ada"], pegs=1), [(0, "ada", 0)], [0]))
((0, (0,), (0,)), (0, (1,), (1,)))
""",
    "housenotes": r"""
>>> from leavetaking.houses import House
>>> from leavetaking.housenotes import format_house
>>> format_house(House(["ada", "bob"], brings=["bob", "ada"], pegs=2).choosing("bob", 3))
'house ada bob\npegs 2\nbrings bob ada\ntaste ada 2 1\ntaste bob 2 1\ndepth bob 3\n'
""",
    "claimnotes": r"""
>>> from leavetaking.claims import Claim
>>> from leavetaking.claimnotes import format_claim
>>> format_claim(Claim.of(("wore", "ada", "bob")) | ~Claim.of(("hung", ("out", "ada"), 1, ("ada", "bob"))))
'([wore ada bob] | [bare out:ada 1 ada bob])\n'
""",
}


class Examples(unittest.TestCase):
    def test_examples(self):
        for word, text in EXAMPLES.items():
            with self.subTest(word):
                example = doctest.DocTestParser().get_doctest(text, {}, word, None, 0)
                told = []
                result = doctest.DocTestRunner(verbose=False).run(example, out=told.append)
                self.assertEqual(result.failed, 0, "".join(told))
                self.assertGreater(result.attempted, 1)
