"""The examples of the document, as they are written there."""

import unittest

from tests.helper import run_examples

NAMES = '''
>>> TWO = ((("store", "x"), ("load", "y")), (("store", "y"), ("load", "x")))
>>> MESSAGE = ((("store", "x"), ("store", "y")), (("load", "y"), ("load", "x")))
>>> THREE = ((("store", "x"), ("load", "y")), (("store", "y"),), (("load", "y"), ("load", "x")))
>>> LINE, LANES = ("line", 4), ("lanes", 4)
'''

PROGRAMS = '''
>>> from ringfences.programs import accesses, is_buffers, is_program, meets, variables_of
>>> [is_program(TWO), is_program(((("load", "X"),),)), is_buffers(("line", 0)), variables_of(TWO)]
[True, False, False, ('x', 'y')]
>>> [accesses(THREE), meets(TWO, (0, 0), (1, 1)), meets(MESSAGE, (0, 0), (1, 0)), meets(THREE, (0, 1), (2, 0))]
[((0, 0), (0, 1), (1, 0), (2, 0), (2, 1)), True, False, False]
'''

STEPS = '''
>>> from ringfences.steps import after, possible, start
>>> STATE = after(TWO, LINE, start(TWO), ("do", 0))
>>> [start(TWO), STATE, possible(TWO, LINE, STATE)]
[((0, 0), ((), ()), (None, None)), ((1, 0), ((0,), ()), (None, None)), (('do', 0), ('do', 1), ('flush', 0, 'x'))]
>>> after(TWO, LINE, start(TWO), ("flush", 0, "x"))
raises NothingWaits(variable='x')
'''

RUNS = '''
>>> from ringfences.runs import completed, is_complete, is_plain, is_run, states_of
>>> RUN = (("do", 0), ("do", 0), ("do", 1), ("do", 1), ("flush", 0, "x"), ("flush", 1, "y"))
>>> [is_run(TWO, LINE, RUN), is_complete(TWO, LINE, RUN), is_plain(TWO, LINE, RUN), states_of(TWO, LINE, RUN)[-1]]
[True, True, False, ((2, 2), ((), ()), ((0, 0), (1, 0)))]
>>> [is_run(MESSAGE, LINE, (("do", 0), ("do", 0), ("flush", 0, "y"))), is_run(MESSAGE, LANES, (("do", 0), ("do", 0), ("flush", 0, "y")))]
[False, True]
>>> len(completed(TWO, LINE, RUN[:3]))
6
'''

STORIES = '''
>>> from ringfences.stories import plain_order, shows_plain, shows_story_ring, story_of, story_ring
>>> STORY = story_of(TWO, LINE, RUN)
>>> STORY
((((0, 1), None), ((1, 1), None)), (('x', ((0, 0),)), ('y', ((1, 0),))))
>>> [plain_order(TWO, STORY), shows_story_ring(TWO, STORY, ((0, 0), (0, 1), (1, 0), (1, 1))), shows_story_ring(TWO, STORY, ((0, 0), (0, 1)))]
[None, True, False]
>>> OTHER = ((((0, 1), (1, 0)), ((1, 1), None)), STORY[1])
>>> [shows_plain(TWO, OTHER, (1, 1, 0, 0)), shows_plain(TWO, OTHER, (0, 0, 1, 1)), story_ring(TWO, OTHER)]
[True, False, None]
>>> story_of(TWO, LINE, RUN[:5])
raises Incomplete()
'''

FACTS = '''
>>> from ringfences.facts import facts, is_torn, shows_torn_ring
>>> START = (("do", 0), ("do", 0), ("do", 1))
>>> [facts(TWO, LINE, START), is_torn(TWO, LINE, START), is_torn(TWO, LINE, START + (("do", 1),))]
[(((0, 0), (0, 1)), ((0, 1), (1, 0))), False, True]
>>> shows_torn_ring(TWO, LINE, START + (("do", 1),), ((1, 0), (1, 1), (0, 0), (0, 1)))
True
'''

PAIRS = '''
>>> from ringfences.pairs import is_faithful, least_room, live_pairs, loose_pairs, ring_for, shows_ring
>>> [loose_pairs(TWO, LINE), live_pairs(TWO, LINE), ring_for(TWO, LINE, (0, 0, 1)), shows_ring(THREE, (0, 0, 1), ((1, 0, 0), (2, 0, 1)))]
[((0, 0, 1), (1, 0, 1)), ((0, 0, 1), (1, 0, 1)), ((1, 0, 1),), True]
>>> [is_faithful(MESSAGE, LINE), is_faithful(MESSAGE, LANES), least_room(TWO, "line"), least_room(MESSAGE, "line")]
[True, False, 1, None]
>>> OWN = ((("store", "x"), ("store", "y"), ("load", "y")),)
>>> [loose_pairs(OWN, LINE), loose_pairs(OWN, LANES), loose_pairs(((("store", "x"), ("store", "z"), ("load", "y")),), ("line", 1))]
[(), ((0, 0, 1), (0, 0, 2)), ((0, 1, 2),)]
>>> ring_for(MESSAGE, LINE, (0, 0, 1))
raises NotLive(pair=(0, 0, 1))
'''

TEARING = '''
>>> from ringfences.tearing import fewest_steps, shows_tearing, tearing_run
>>> [fewest_steps(TWO, LINE), fewest_steps(THREE, LINE), fewest_steps(MESSAGE, LANES), fewest_steps(MESSAGE, LINE)]
[4, 6, 5, None]
>>> BACK = ((("store", "x"), ("load", "y")), (("store", "y"), ("store", "x")))
>>> [fewest_steps(BACK, LINE), fewest_steps(BACK, LANES), len(tearing_run(BACK, LINE)), shows_tearing(TWO, LINE, START)]
[6, 5, 6, False]
'''


REMEDIES = '''
>>> from ringfences.remedies import applied, apart, cuts, fewest, shows_cure
>>> [fewest(TWO, LINE, "fence"), fewest(TWO, LINE, "swap"), apart(TWO, LINE, "fence")]
[(('fence', 0, 1), ('fence', 1, 1)), (('swap', 0, 0), ('swap', 1, 0)), ((0, 0, 1), (1, 0, 1))]
>>> [applied(MESSAGE, (("fence", 0, 1), ("swap", 0, 1)))[0], cuts(("swap", 0, 1), (0, 0, 1)), shows_cure(MESSAGE, LANES, (("swap", 0, 1),)), shows_cure(TWO, LINE, (("fence", 0, 1),))]
[(('store', 'x'), ('fence',), ('swap', 'y')), True, True, False]
'''

PRICES = '''
>>> from ringfences.prices import cheapest, shows_weights, weights
>>> PRICES = ((("fence", 0, 1), 3), (("fence", 1, 1), 3), (("swap", 0, 0), 2))
>>> [cheapest(TWO, LINE, PRICES), weights(TWO, LINE, PRICES), cheapest(TWO, LINE, PRICES[:1])]
[(5, (('fence', 1, 1), ('swap', 0, 0))), (((0, 0, 1), 2), ((1, 0, 1), 3)), None]
>>> [shows_weights(TWO, LINE, PRICES, 4, (((0, 0, 1), 1), ((1, 0, 1), 3))), shows_weights(TWO, LINE, PRICES, 6, (((0, 0, 1), 3), ((1, 0, 1), 3)))]
[True, False]
'''

NEEDLESS = '''
>>> from ringfences.needless import needless_fences, thinned
>>> FENCED = ((("store", "x"), ("fence",), ("fence",), ("load", "y")), (("store", "y"), ("fence",), ("load", "x"), ("fence",)))
>>> [needless_fences(FENCED, LINE), thinned(FENCED, LINE)]
[((0, 1), (0, 2), (1, 3)), ((('store', 'x'), ('fence',), ('load', 'y')), (('store', 'y'), ('fence',), ('load', 'x')))]
'''

EXPLORING = '''
>>> from ringfences.exploring import plain_count, stories, story_count
>>> [story_count(TWO, LINE), plain_count(TWO), story_count(MESSAGE, LINE), story_count(MESSAGE, LANES), STORY in list(stories(TWO, LINE))]
[4, 3, 3, 4, True]
'''


GUARDS = '''
>>> from ringfences.guards import Guard
>>> GUARD = Guard(TWO) + ("fence", 0, 1) + ("swap", 1, 0) + ("fence", 1, 2)
>>> [len(GUARD), GUARD.left(LINE), GUARD.least(LINE).remedies, Guard(TWO).is_within(GUARD), ("swap", 1, 0) in GUARD, (GUARD - ("fence", 0, 1)).left(LINE)]
[3, (), (('fence', 0, 1), ('swap', 1, 0)), True, True, ((0, 0, 1),)]
'''

MACHINE = '''
>>> from ringfences.machine import Machine, tried
>>> M = Machine(TWO, LINE)
>>> [M.do(("do", 0)), M(("do", 0)), M.do(("do", 1)), M.is_torn(), M.possible(), tried(M, lambda one: one.finish()), len(M)]
[None, ((2, 0), ((0,), ()), (None, None)), None, False, (('do', 1), ('flush', 0, 'x'), ('flush', 1, 'y')), 3, 3]
>>> [M.finish(), M.is_complete(), M.is_torn(), M[3], M.undo()]
[3, True, False, ('flush', 0, 'x'), ('do', 1)]
'''

TEXTS = r'''
>>> from ringfences.texts import format_program, listing, parse_program, parse_remedies
>>> [format_program(TWO), parse_program("thread store a; fence\nthread")]
['thread store x; load y\nthread store y; load x', ((('store', 'a'), ('fence',)), ())]
>>> [parse_remedies(TWO, "fence 0 1\nswap 1 0"), listing(MESSAGE, LANES, (("do", 0), ("flush", 0, "x")))]
[(('fence', 0, 1), ('swap', 1, 0)), '  0 | start          | 0/0 0/0 | x=- y=-\n  1 | do 0           | 1/1 0/0 | x=- y=-\n  2 | flush 0 x      | 1/0 0/0 | x=0.0 y=-']
>>> parse_program("thread store a; store")
raises BadText(row=0)
'''

DESK = '''
>>> from ringfences.desk import Desk
>>> DESK = Desk()
>>> [DESK.say("line 4 thread store x; load y / thread store y; load x"), DESK.say("pairs"), DESK.say("steps"), DESK.say("do 0"), DESK.say("state"), DESK.say("fences"), DESK.say("faithful")]
['done', '0.0.1 1.0.1', '4', 'done', '1/1 0/0 | x=- y=-', '2', 'no']
'''


class Examples(unittest.TestCase):
    def check(self, text, many, *ahead):
        names = {}
        # Some examples use names of the ones ahead of them.
        for other in (NAMES,) + ahead:
            run_examples(other, names)
        pairs = run_examples(text, names)
        # A runner that found no example would pass anything.
        self.assertEqual(many, len(pairs))
        for wanted, came in pairs:
            self.assertEqual(wanted, came)

    def test_programs(self):
        self.check(PROGRAMS, 2)

    def test_steps(self):
        self.check(STEPS, 2)

    def test_runs(self):
        self.check(RUNS, 3)

    def test_stories(self):
        self.check(STORIES, 4, RUNS)

    def test_facts(self):
        self.check(FACTS, 2)

    def test_pairs(self):
        self.check(PAIRS, 4)

    def test_tearing(self):
        self.check(TEARING, 2, FACTS)

    def test_remedies(self):
        self.check(REMEDIES, 2)

    def test_prices(self):
        self.check(PRICES, 2)

    def test_needless(self):
        self.check(NEEDLESS, 1)

    def test_exploring(self):
        self.check(EXPLORING, 1, RUNS, STORIES)

    def test_guards(self):
        self.check(GUARDS, 1)

    def test_machine(self):
        self.check(MACHINE, 2)

    def test_texts(self):
        self.check(TEXTS, 3)

    def test_desk(self):
        self.check(DESK, 1)
