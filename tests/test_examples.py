"""The examples of the document, as they are written there."""

import unittest

from tests.helper import run_examples

NAMES = '''
>>> TWO = ((("store", "x"), ("load", "y")), (("store", "y"), ("load", "x")))
>>> MESSAGE = ((("store", "x"), ("store", "y")), (("load", "y"), ("load", "x")))
>>> THREE = ((("store", "x"), ("load", "y")), (("store", "y"),), (("load", "y"), ("load", "x")))
>>> LINE, LANES = ("line", 4), ("lanes", 4)
'''

PROGRAMS = '''
>>> from ringfences.programs import accesses, is_buffers, is_program, meets, variables_of
>>> [is_program(TWO), is_program(((("load", "X"),),)), is_buffers(("line", 0)), variables_of(TWO)]
[True, False, False, ('x', 'y')]
>>> [accesses(THREE), meets(TWO, (0, 0), (1, 1)), meets(MESSAGE, (0, 0), (1, 0)), meets(THREE, (0, 1), (2, 0))]
[((0, 0), (0, 1), (1, 0), (2, 0), (2, 1)), True, False, False]
'''

STEPS = '''
>>> from ringfences.steps import after, possible, start
>>> STATE = after(TWO, LINE, start(TWO), ("do", 0))
>>> [start(TWO), STATE, possible(TWO, LINE, STATE)]
[((0, 0), ((), ()), (None, None)), ((1, 0), ((0,), ()), (None, None)), (('do', 0), ('do', 1), ('flush', 0, 'x'))]
>>> after(TWO, LINE, start(TWO), ("flush", 0, "x"))
raises NothingWaits(variable='x')
'''

RUNS = '''
>>> from ringfences.runs import completed, is_complete, is_plain, is_run, states_of
>>> RUN = (("do", 0), ("do", 0), ("do", 1), ("do", 1), ("flush", 0, "x"), ("flush", 1, "y"))
>>> [is_run(TWO, LINE, RUN), is_complete(TWO, LINE, RUN), is_plain(TWO, LINE, RUN), states_of(TWO, LINE, RUN)[-1]]
[True, True, False, ((2, 2), ((), ()), ((0, 0), (1, 0)))]
>>> [is_run(MESSAGE, LINE, (("do", 0), ("do", 0), ("flush", 0, "y"))), is_run(MESSAGE, LANES, (("do", 0), ("do", 0), ("flush", 0, "y")))]
[False, True]
>>> len(completed(TWO, LINE, RUN[:3]))
6
'''


class Examples(unittest.TestCase):
    def check(self, text, many):
        names = {}
        run_examples(NAMES, names)
        pairs = run_examples(text, names)
        # A runner that found no example would pass anything.
        self.assertEqual(many, len(pairs))
        for wanted, came in pairs:
            self.assertEqual(wanted, came)

    def test_programs(self):
        self.check(PROGRAMS, 2)

    def test_steps(self):
        self.check(STEPS, 2)

    def test_runs(self):
        self.check(RUNS, 3)
