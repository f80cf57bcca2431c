"""The desk: a machine that is told what to do by lines of words."""

import re
import unittest

from ringfences.desk import Desk
from ringfences.errors import BadLine, BadStep, BadText, Blocked, Finished, Full, NoMachine, NoThread, NotOldest
from ringfences.errors import NothingToUndo, NothingWaits, Unfaithful
from ringfences.facts import is_torn
from ringfences.machine import Machine
from ringfences.needless import needless_fences
from ringfences.pairs import is_faithful, live_pairs
from ringfences.remedies import applied, fewest
from ringfences.runs import completed
from ringfences.tearing import fewest_steps, tearing_run
from ringfences.texts import format_program, format_run, listing, parse_program
from tests.helper import BUFFERS, EMPTY, FULL, GREATEST, LANES, LINE, MESSAGE, MIXED, OWN, SMALL, THREE, TWO
from tests.helper import dense_programs, values
from tests.test_texts import NUMBER, near_texts

WORDS = ("undo", "finish", "torn", "faithful", "state", "pairs", "steps", "run", "fences", "swaps", "needless")
FORMS = rf"(?:line|lanes) (?:[1-9]|1[0-6]) [^\n]*|do {NUMBER}|flush {NUMBER} [a-z]{{1,4}}|" + "|".join(WORDS)
FENCED = (
    (("store", "x"), ("fence",), ("fence",), ("load", "y")),
    (("store", "y"), ("fence",), ("load", "x"), ("fence",)),
)


def text_line(program, buffers):
    """The line that makes a machine."""
    return f"{buffers[0]} {buffers[1]} " + format_program(program).replace("\n", " / ")


def desk_of(program, buffers, run=()):
    """A desk whose machine has made the steps of a run."""
    desk = Desk()
    for line in [text_line(program, buffers)] + [" ".join(map(str, step)) for step in run]:
        if desk.say(line) != "done":
            raise AssertionError(line)
    return desk


def wanted_answers(program, buffers, run):
    """What the lines of one word that change nothing are answered, by the functions."""
    steps, torn = fewest_steps(program, buffers), tearing_run(program, buffers)
    row = listing(program, buffers, run).split("\n")[-1]
    pairs = live_pairs(program, buffers)
    return {
        "torn": "yes" if is_torn(program, buffers, run) else "no",
        "faithful": "yes" if is_faithful(program, buffers) else "no",
        "state": " | ".join(row.split(" | ")[2:]),
        "pairs": " ".join(".".join(map(str, pair)) for pair in pairs) or "none",
        "steps": "none" if steps is None else str(steps),
        "run": "none" if torn is None else format_run(torn).replace("\n", " / "),
        "fences": str(len(fewest(program, buffers, "fence"))),
        "swaps": str(len(fewest(program, buffers, "swap"))),
    }


class Checks(unittest.TestCase):
    def check(self, desk, program, buffers, run):
        """Whether a desk answers as the functions do, and is the same afterwards."""
        for _ in range(2):
            for line, answer in wanted_answers(program, buffers, run).items():
                found = desk.say(line)
                self.assertIs(str, type(found))
                self.assertEqual(answer, found, (line, program, buffers, run))
            if is_faithful(program, buffers):
                self.assertEqual(str(len(needless_fences(program, buffers))), desk.say("needless"))
            else:
                self.refused(desk, "needless", Unfaithful, {})

    def refused(self, desk, line, error, kept):
        with self.assertRaises(error) as held:
            desk.say(line)
        self.assertIs(error, type(held.exception))
        self.assertEqual(kept, vars(held.exception))


class Forms(Checks):
    LINES = ("line 4 thread store x; load y / thread store y; load x", "lanes 16 thread", "line 1 ", "do 0", "do 10",
             "flush 0 x", "flush 123456789 abcd") + WORDS

    def test_every_form(self):
        for line in self.LINES:
            self.assertIsNotNone(re.fullmatch(FORMS, line))
            try:
                desk_of(TWO, LINE).say(line)
            except BadLine:
                self.fail(line)
            except ValueError:
                pass

    def test_one_thing_otherwise(self):
        known = refused = 0
        for line in self.LINES + ("line", "lanes 4", "do", "flush 0"):
            for text in near_texts(line):
                for made in (False, True):
                    desk = desk_of(TWO, LINE) if made else Desk()
                    try:
                        desk.say(text)
                        is_known = True
                    except BadLine as error:
                        self.assertEqual({"line": text}, vars(error))
                        self.assertIs(text, error.line)
                        is_known = False
                    except ValueError:
                        is_known = True
                    self.assertIs(re.fullmatch(FORMS, text) is not None, is_known, text)
                    known, refused = known + is_known, refused + (not is_known)
        self.assertGreater(min(known, refused), 500)

    def test_lines_that_are_none(self):
        for line in (
            "", " ", "line", "line ", "line 4", "lines 4 thread", "line4 thread", "line 0 thread", "line 17 thread",
            "line 04 thread", "line 4thread", "line  4 thread", "line x thread", "line -1 thread", "line 1000000000 thread",
            "Line 4 thread", " line 4 thread", "lane 4 thread", "lanes 0 thread", "lanes 17 thread", "lanes 016 thread",
            "line thread", "line thread 4", "line 4 thread\n", "line 4 thread\nthread", "\nline 4 thread", "line\n4 thread",
            "do", "do ", "do  0", "do 0 ", " do 0", "do 00", "do 01", "do 1000000000", "do x", "do -1", "do 0 x", "0 do",
            "do 0\n", "flush", "flush 0", "flush 0 ", "flush x", "flush x 0", "flush 0 X", "flush 0 abcde", "flush 0 x1",
            "flush 0  x", "flush 00 x", "flush 0 x y", "flush 1000000000 x", "flush 0 x\n", "undo ", " undo", "undo 1",
            "undo\n", "Undo", "undo undo", "finish 1", "torn?", "faithful ", "states", "pair", "pairs 0", "step", "runs",
            "run run", "fence", "fences 1", "swap", "swaps ", "needless ", "help", "thread", "line 4\tthread", "story",
        ):
            self.assertIsNone(re.fullmatch(FORMS, line), line)
            for desk in (Desk(), desk_of(TWO, LINE)):
                self.refused(desk, line, BadLine, {"line": line})

    def test_values_of_every_kind(self):
        for value in values() + [b"undo", ["undo"], ("undo",), ("do", 0)]:
            before = repr(value)
            for desk in (Desk(), desk_of(TWO, LINE, (("do", 0),))):
                with self.assertRaises(BadLine) as held:
                    desk.say(value)
                self.assertEqual(["line"], list(vars(held.exception)))
                self.assertIs(value, held.exception.line)
                with self.assertRaises(BadLine):
                    desk.say(line=value)
            self.assertEqual(before, repr(value))

    def test_names(self):
        desk = Desk()
        self.assertEqual("done", desk.say(line="line 4 thread fence"))
        self.assertEqual("done", desk.say(line="do 0"))
        self.assertEqual("do 0", desk.say(line="undo"))


class NewMachines(Checks):
    def test_rooms(self):
        for word in ("line", "lanes"):
            for room in range(1, 17):
                desk = desk_of(MESSAGE, (word, room))
                self.check(desk, MESSAGE, (word, room), ())

    def test_as_many_stores_wait_as_there_is_room(self):
        for word in ("line", "lanes"):
            for room in range(1, 17):
                desk = Desk()
                desk.say(f"{word} {room} thread " + "; ".join(["store x"] * 16))
                for _ in range(room):
                    self.assertEqual("done", desk.say("do 0"))
                self.assertEqual(f"{room}/{room} | x=-", desk.say("state"))
                if room < 16:
                    self.refused(desk, "do 0", Full, {"thread": 0})

    def test_texts(self):
        for program in SMALL + (GREATEST,):
            for buffers in (LINE, LANES):
                desk = desk_of(program, buffers)
                self.assertEqual(wanted_answers(program, buffers, ())["state"], desk.say("state"))
        desk = Desk()
        for text, row in (
            ("", 0), (" ", 0), ("thread ", 0), (" thread", 0), ("thread / ", 1), ("thread / thread ", 1), ("thread /", 0),
            ("thread/thread", 0), ("thread / / thread", 1), ("thread /  / thread", 1), ("/ thread", 0), (" / thread", 0),
            ("thread / thread / store x", 2), (" / ".join(["thread"] * 7), 6), ("thread store x; store", 0),
            ("thread / thread load a; load b; load c; load d; load e; load f; load g", 1), ("thread  / thread", 0),
            ("thread / thread " + "; ".join(["fence"] * 17), 1), ("Thread", 0), ("thread\r / thread", 0),
        ):
            for room in ("line 4 ", "lanes 16 "):
                for desk in (Desk(), desk_of(TWO, LINE, (("do", 0),))):
                    self.refused(desk, room + text, BadText, {"row": row})

    def test_a_line_comes_ahead_of_its_text(self):
        self.refused(Desk(), "line 17 threads", BadLine, {"line": "line 17 threads"})
        self.refused(Desk(), "line 4", BadLine, {"line": "line 4"})
        self.refused(Desk(), "line 4 ", BadText, {"row": 0})

    def test_a_new_machine_in_place_of_another(self):
        desk = desk_of(TWO, LINE, (("do", 0), ("do", 1)))
        self.assertEqual("done", desk.say(text_line(MESSAGE, LANES)))
        self.check(desk, MESSAGE, LANES, ())
        self.refused(desk, "undo", NothingToUndo, {})

    def test_desks_are_independent(self):
        one, other = desk_of(TWO, LINE), Desk()
        self.refused(other, "state", NoMachine, {})
        other.say(text_line(TWO, LINE))
        one.say("do 0")
        self.check(one, TWO, LINE, (("do", 0),))
        self.check(other, TWO, LINE, ())


class WithoutMachine(Checks):
    def test_all_other_lines(self):
        desk = Desk()
        for line in WORDS + ("do 0", "do 999999999", "flush 0 x", "flush 7 abcd"):
            for _ in range(2):
                self.refused(desk, line, NoMachine, {})

    def test_after_a_refused_text(self):
        desk = Desk()
        self.refused(desk, "line 4 thread store", BadText, {"row": 0})
        self.refused(desk, "torn", NoMachine, {})
        self.refused(desk, "torn ", BadLine, {"line": "torn "})


class Steps(Checks):
    def test_errors_change_nothing(self):
        program = ((("store", "x"), ("store", "y"), ("fence",)), (("load", "x"),))
        desk = desk_of(program, ("line", 2))
        made = []
        for line, error, kept in (
            ("do 2", NoThread, {"thread": 2}), ("do 999999999", NoThread, {"thread": 999999999}),
            ("flush 5 x", NoThread, {"thread": 5}), ("flush 0 x", NothingWaits, {"variable": "x"}),
            ("flush 1 abcd", NothingWaits, {"variable": "abcd"}), ("undo", NothingToUndo, {}), ("do 0", None, None),
            ("do 0", None, None), ("do 0", Blocked, {"thread": 0}), ("flush 0 y", NotOldest, {"variable": "y"}),
            ("do 1", None, None), ("do 1", Finished, {"thread": 1}), ("line 4 x", BadText, {"row": 0}),
            ("flush 0 x", None, None), ("lines", BadLine, {"line": "lines"}),
        ):
            if error is None:
                self.assertEqual("done", desk.say(line))
                words = line.split(" ")
                made.append((words[0], int(words[1])) + tuple(words[2:]))
            else:
                self.refused(desk, line, error, kept)
            self.check(desk, program, ("line", 2), tuple(made))
        self.assertEqual(["flush 0 x", "do 1", "do 0", "do 0"], [desk.say("undo") for _ in made])
        self.refused(desk, "undo", NothingToUndo, {})
        desk.say("line 1 thread store x; store x")
        desk.say("do 0")
        self.refused(desk, "do 0", Full, {"thread": 0})

    def test_no_line_is_a_bad_step(self):
        desk = desk_of(TWO, LINE)
        for line in ("do 0 0", "flush 0 0", "do", "flush 0"):
            with self.assertRaises(BadLine) as held:
                desk.say(line)
            self.assertNotIsInstance(held.exception, BadStep)

    def test_finish(self):
        for program in SMALL:
            for buffers in BUFFERS:
                run = completed(program, buffers, ())
                for many in (0, 1, 2, len(run)):
                    machine = Machine(program, buffers)
                    for step in run[:many]:
                        machine.do(step)
                    desk = desk_of(program, buffers, run[:many])
                    self.assertEqual(str(machine.finish()), desk.say("finish"))
                    self.check(desk, program, buffers, machine.steps)
                    self.assertEqual("0", desk.say("finish"))
                    for step in machine.steps[::-1]:
                        self.assertEqual(" ".join(map(str, step)), desk.say("undo"))
                    self.refused(desk, "undo", NothingToUndo, {})


class Answers(Checks):
    def test_the_functions_answers(self):
        for program in SMALL + (OWN, FULL) + tuple(dense_programs(20, 90)):
            for buffers in (("line", 1), LINE, ("lanes", 1), LANES):
                run = completed(program, buffers, ())
                for many in (0, len(run) // 2, len(run)):
                    self.check(desk_of(program, buffers, run[:many]), program, buffers, run[:many])

    def test_as_written(self):
        desk = desk_of(TWO, LINE)
        wanted = {"pairs": "0.0.1 1.0.1", "steps": "4", "fences": "2", "swaps": "2", "faithful": "no", "torn": "no",
                  "state": "0/0 0/0 | x=- y=-"}
        for line, answer in wanted.items():
            self.assertEqual(answer, desk.say(line))
        self.assertIn(desk.say("run"), ("do 0 / do 0 / do 1 / do 1", "do 1 / do 1 / do 0 / do 0"))

    def test_faithful_ones(self):
        for buffers in BUFFERS:
            desk = desk_of(FENCED, buffers)
            wanted = {"pairs": "none", "steps": "none", "run": "none", "fences": "0", "swaps": "0", "faithful": "yes",
                      "torn": "no", "needless": "3"}
            for line, answer in wanted.items():
                self.assertEqual(answer, desk.say(line))
            self.assertEqual("0", desk_of(EMPTY, buffers).say("needless"))
            self.assertEqual("0/0 0/0 | ", desk_of(EMPTY, buffers).say("state"))
        self.assertEqual("0", desk_of(MESSAGE, LINE).say("needless"))
        self.refused(desk_of(MESSAGE, LANES), "needless", Unfaithful, {})

    def test_programs_with_fences_that_help(self):
        for program in SMALL + tuple(dense_programs(20, 91)):
            for buffers in (LINE, LANES):
                fenced = applied(program, fewest(program, buffers, "fence"))
                self.check(desk_of(fenced, buffers), fenced, buffers, ())

    def test_greatest(self):
        for buffers in (("line", 16), ("lanes", 16), ("lanes", 1)):
            self.check(desk_of(GREATEST, buffers), GREATEST, buffers, ())


class ToldBack(Checks):
    def check_run(self, program, buffers):
        """Tells a desk its own answer to run, line by line."""
        desk = desk_of(program, buffers)
        answer = desk.say("run")
        if answer == "none":
            self.assertEqual(("none", "yes", "none", "0"), tuple(map(desk.say, ("steps", "faithful", "pairs", "fences"))))
            return 0
        lines = answer.split(" / ")
        self.assertEqual(str(len(lines)), desk.say("steps"))
        states = []
        for line in lines:
            self.assertEqual("no", desk.say("torn"))
            states.append(desk.say("state"))
            self.assertEqual("done", desk.say(line))
        self.assertEqual("yes", desk.say("torn"))
        last = desk.say("state")
        # Taken back and made again it is the same.
        for line, state in zip(lines[::-1], states[::-1]):
            self.assertEqual(line, desk.say("undo"))
            self.assertEqual(("no", state), (desk.say("torn"), desk.say("state")))
        self.refused(desk, "undo", NothingToUndo, {})
        for line in lines:
            desk.say(line)
        self.assertEqual(("yes", last), (desk.say("torn"), desk.say("state")))
        desk.say("finish")
        self.assertEqual("yes", desk.say("torn"))
        return 1

    def test_programs(self):
        torn = 0
        for program in SMALL + (MIXED, THREE) + tuple(dense_programs(25, 92)):
            self.assertEqual(program, parse_program(format_program(program)))
            for buffers in (("line", 1), LINE, ("lanes", 1), LANES):
                torn += self.check_run(program, buffers)
        self.assertGreater(torn, 60)

    def test_greatest(self):
        self.assertEqual(1, self.check_run(GREATEST, ("lanes", 16)))
        self.assertEqual(0, self.check_run(GREATEST, ("line", 16)))
