"""Texts: programs, runs and remedies as rows of words, and listings."""

import random
import re
import unittest

from ringfences.errors import BadText
from ringfences.programs import is_program
from ringfences.remedies import is_remedies
from ringfences.runs import completed, states_of
from ringfences.texts import format_program, format_remedies, format_run, listing
from ringfences.texts import parse_program, parse_remedies, parse_run
from tests.helper import BUFFERS, EMPTY, GREATEST, LANES, LINE, MESSAGE, MIXED, NAMES, SMALL, THREE, TWO
from tests.helper import all_remedies, dense_programs, is_all_tuples, random_programs, subsets, values

INSTRUCTION = r"(?:fence|(?:store|load|swap) [a-z]{1,4})"
THREAD = rf"thread(?: {INSTRUCTION}(?:; {INSTRUCTION})*)?"
NUMBER = r"(?:0|[1-9][0-9]{0,8})"
STEP = rf"(?:do {NUMBER}|flush {NUMBER} [a-z]{{1,4}})"
REMEDY = rf"(?:fence|swap) {NUMBER} {NUMBER}"

RUN = (("do", 0), ("do", 12), ("flush", 0, "x"), ("flush", 999999999, "zzzz"), ("do", 0), ("do", 100))
CURE = (("fence", 0, 1), ("fence", 0, 2), ("fence", 1, 0), ("swap", 0, 0), ("swap", 1, 0))
# What is put in, or in place of a character, at every place of a text.
SIGNS = (" ", "  ", "\n", "\n\n", ";", "; ", "0", "1", "7", "01", "x", "X", "-", "_", "\t", "\r", ".", "/", "fence", "é")


def refused_program(text):
    """The first row that cannot stand in the text of a program, None if all can."""
    variables = set()
    for number, row in enumerate(text.split("\n")):
        words = re.findall(r"(?:store|load|swap) ([a-z]+)", row)
        variables.update(words)
        if number == 6 or not re.fullmatch(THREAD, row) or len(variables) > 6 or row.count(";") > 15:
            return number
    return None


def refused_run(text):
    """The first row that cannot stand in the text of a run, None if all can."""
    rows = text.split("\n")
    if rows[0] == "":
        return 1 if len(rows) > 1 else None
    for number, row in enumerate(rows):
        if not re.fullmatch(STEP, row):
            return number
    return None


def refused_remedies(program, text):
    """The first row that cannot stand in the text of remedies, None if all can."""
    rows, last = text.split("\n"), ()
    if rows[0] == "":
        return 1 if len(rows) > 1 else None
    for number, row in enumerate(rows):
        if not re.fullmatch(REMEDY, row):
            return number
        word, thread, at = row.split(" ")
        remedy = (word, int(thread), int(at))
        if remedy not in all_remedies(program) or remedy <= last:
            return number
        last = remedy
    return None


def near_texts(text):
    """Texts with one thing otherwise, at every place, and with rows exchanged, twice and missing."""
    for at in range(len(text) + 1):
        yield text[:at]
        for sign in SIGNS:
            yield text[:at] + sign + text[at:]
            yield text[:at] + sign + text[at + 1:]
        yield text[:at] + text[at + 1:]
        yield text[:at] + text[at:].upper()
    rows = text.split("\n")
    for at in range(len(rows)):
        yield "\n".join(rows[:at] + rows[at + 1:])
        yield "\n".join(rows[:at] + rows[at:at + 1] + rows[at:])
        yield "\n".join(rows[:at] + [""] + rows[at:])
        yield "\n".join(rows[:at] + rows[at:][::-1])
        yield "\n".join(rows[at:] + rows[:at])
    words = text.split(" ")
    for at in range(len(words) - 1):
        yield " ".join(words[:at] + [words[at + 1], words[at]] + words[at + 2:])
        yield " ".join(words[:at] + words[at + 1:])
        yield " ".join(words[:at + 1] + words[at:])


class Checks(unittest.TestCase):
    def refused(self, row, parse, *given):
        """The text is refused with the row, or, where that is None, read and written back."""
        if row is None:
            self.assertTrue(is_all_tuples(parse(*given)))
            return
        for _ in range(2):
            with self.assertRaises(BadText) as held:
                parse(*given)
            self.assertEqual({"row": row}, vars(held.exception), given)

    def check_values(self, parse):
        for value in values() + [TWO, RUN, CURE, b"", b"do 0", ["do 0"], ("do 0",)]:
            before = repr(value)
            if not isinstance(value, str):
                self.refused(0, parse, value)
            self.assertEqual(before, repr(value))


class Programs(Checks):
    def test_as_written(self):
        self.assertEqual("thread store x; load y\nthread store y; load x", format_program(TWO))
        self.assertEqual("thread\nthread", format_program(EMPTY))
        self.assertEqual("thread", format_program(((),)))
        self.assertEqual(
            "thread store x; store y; store x; load x; fence; load y\nthread swap x; store y; swap y\nthread",
            format_program(MIXED),
        )
        self.assertEqual("thread fence\nthread\nthread fence; fence",
                         format_program(((("fence",),), (), (("fence",), ("fence",)))))
        self.assertEqual("thread swap abcd; load zzzz", format_program(((("swap", "abcd"), ("load", "zzzz")),)))

    def test_read_back(self):
        source = random.Random(80)
        programs = list(SMALL) + [GREATEST] + random_programs(40, 81, 12) + dense_programs(40, 82)
        for threads in range(1, 7):
            for many in range(17):
                rows = [
                    [(source.choice(("store", "load", "swap", "fence")), source.choice(NAMES)) for _ in range(many)]
                    for _ in range(threads)
                ]
                rows = [tuple(row[:1] if row[0] == "fence" else row for row in one) for one in rows]
                programs.append(tuple(rows))
        for program in programs:
            text = format_program(program)
            self.assertEqual(None, refused_program(text))
            self.assertEqual(program, parse_program(text))
            self.assertTrue(is_all_tuples(parse_program(text)))
            self.assertEqual(text, format_program(program=parse_program(text=text)))

    def test_one_thing_otherwise(self):
        kept = {True: 0, False: 0}
        for program in (TWO, THREE, MIXED, EMPTY, ((),), ((("fence",),),)):
            for text in near_texts(format_program(program)):
                row = refused_program(text)
                kept[row is None] += 1
                self.refused(row, parse_program, text)
                if row is None:
                    self.assertEqual(text, format_program(parse_program(text)))
                    self.assertIs(True, is_program(parse_program(text)))
        self.assertGreater(min(kept.values()), 150)

    def test_rows(self):
        for row, text in (
            (0, ""), (0, "\n"), (0, "\nthread"), (1, "thread\n"), (1, "thread\n\nthread"), (0, " thread"), (0, "thread "),
            (0, "threads"), (0, "Thread"), (0, "thread;"), (0, "thread fence;"), (0, "thread fence; "), (0, "thread ;"),
            (0, "thread store"), (0, "thread store x y"), (0, "thread fence x"), (0, "thread store abcde"),
            (0, "thread store X"), (0, "thread store x;load y"), (0, "thread store x ; load y"), (0, "thread  fence"),
            (0, "thread store  x"), (0, "thread fence;  fence"), (0, "thread fence; ; fence"), (0, "thread store x1"),
            (0, "thread stores x"), (0, "thread\tfence"), (0, "thread fence\r"), (0, "do 0"), (0, "thread fence, fence"),
            (2, "thread\nthread\nthred"), (1, "thread store a; fence\nthread store\nthread store"), (0, "fence"),
            (None, "thread store a; fence\nthread"), (0, "thread do x"), (0, "thread store "), (0, "thread store ;"),
        ):
            self.assertEqual(row, refused_program(text), text)
            self.refused(row, parse_program, text)

    def test_a_seventh_row(self):
        for rows in (["thread"], ["thread fence"], ["thread store x; load y"]):
            self.refused(None, parse_program, "\n".join(rows * 6))
            for many in (7, 8, 20):
                self.refused(6, parse_program, "\n".join(rows * many))
            self.refused(3, parse_program, "\n".join(rows * 3 + ["x"] + rows * 5))
            self.refused(6, parse_program, "\n".join(rows * 6 + ["x"]))
            self.refused(6, parse_program, "\n".join(rows * 6 + [""]))

    def test_a_seventeenth_instruction(self):
        for words in ("fence", "store x", "swap abcd"):
            for ahead in ([], ["thread"], ["thread fence"] * 5):
                for many in (15, 16, 17, 18, 40):
                    text = "\n".join(ahead + ["thread " + "; ".join([words] * many)])
                    self.refused(len(ahead) if many > 16 else None, parse_program, text)

    def test_a_seventh_variable(self):
        rows = ["thread " + "; ".join(f"store {name}" for name in NAMES)]
        self.refused(None, parse_program, rows[0])
        self.refused(0, parse_program, rows[0] + "; load g")
        self.refused(None, parse_program, "\n".join(rows * 6))
        self.refused(1, parse_program, "\n".join(rows + ["thread load aa"] + rows))
        self.refused(5, parse_program, "\n".join(f"thread load {name}" for name in NAMES[:5]) + "\nthread swap f; store g")
        self.refused(None, parse_program, "\n".join(f"thread load {name}" for name in NAMES))

    def test_values_of_every_kind(self):
        self.check_values(parse_program)
        for value in values():
            if isinstance(value, str):
                self.refused(0, parse_program, value)


class Runs(Checks):
    def test_as_written(self):
        self.assertEqual("", format_run(()))
        self.assertEqual("do 0", format_run((("do", 0),)))
        self.assertEqual("do 0\ndo 12\nflush 0 x\nflush 999999999 zzzz\ndo 0\ndo 100", format_run(RUN))
        self.assertEqual((("do", 0),), parse_run("do 0"))
        self.assertEqual((("flush", 5, "abcd"), ("do", 0)), parse_run("flush 5 abcd\ndo 0"))

    def test_read_back(self):
        source = random.Random(83)
        numbers = [0, 1, 5, 9, 10, 99, 100, 123456789, 999999999, 100000000, 900000009]
        for many in list(range(12)) + [100, 193, 1000]:
            steps = [source.choice((("do",), ("flush",))) for _ in range(many)]
            run = tuple(
                step + (source.choice(numbers),) + (() if step[0] == "do" else (source.choice(("a", "zz", "abcd")),))
                for step in steps
            )
            text = format_run(run)
            self.assertEqual(many, len(text.split("\n")) if text else 0)
            self.assertEqual(run, parse_run(text))
            self.assertTrue(is_all_tuples(parse_run(text)))
            self.assertEqual(text, format_run(run=parse_run(text=text)))
        for program in SMALL:
            for buffers in BUFFERS:
                run = completed(program, buffers, ())
                self.assertEqual(run, parse_run(format_run(run)))

    def test_one_thing_otherwise(self):
        kept = {True: 0, False: 0}
        for run in (RUN, RUN[:1], RUN[2:3], ()):
            for text in near_texts(format_run(run)):
                row = refused_run(text)
                kept[row is None] += 1
                self.refused(row, parse_run, text)
                if row is None:
                    self.assertEqual(text, format_run(parse_run(text)))
        self.assertGreater(min(kept.values()), 100)

    def test_rows(self):
        for row, text in (
            (None, ""), (1, "\n"), (1, "\n\n"), (1, "\ndo 0"), (1, "do 0\n"), (2, "do 0\ndo 1\n\ndo 2"), (0, " "),
            (0, "do"), (0, "do "), (0, " do 0"), (0, "do 0 "), (0, "do  0"), (0, "do 00"), (0, "do 01"), (0, "do -1"),
            (0, "do +1"), (0, "do 1_0"), (0, "do 0x"), (0, "do x"), (0, "Do 0"), (0, "do 0 x"), (0, "flush 0"),
            (0, "flush 0 X"), (0, "flush 0 abcde"), (0, "flush 0 x x"), (0, "flush x 0"), (0, "flush 00 x"), (0, "0 do"),
            (0, "flush 0 1"), (0, "do 0\tx"), (0, "do\t0"), (0, "do 0\r\ndo 0"), (0, "flush 0 "), (0, "do 0;"),
            (None, "do 999999999"), (0, "do 1000000000"), (0, "do 0000000001"), (0, "do 000000001"), (0, "do 1.0"),
            (None, "flush 999999999 x"), (0, "flush 1000000000 x"), (3, "do 1\ndo 2\ndo 3\ndo\ndo"), (0, "thread"),
            (0, "do " + "9" * 5000), (0, "store x"), (1, "do 0\nflush"),
        ):
            self.assertEqual(row, refused_run(text), text)
            self.refused(row, parse_run, text)

    def test_values_of_every_kind(self):
        self.check_values(parse_run)
        for value in values():
            if isinstance(value, str):
                self.refused(0 if value else None, parse_run, value)
        self.assertEqual((), parse_run(""))


class Remedies(Checks):
    def test_as_written(self):
        self.assertEqual("", format_remedies(()))
        self.assertEqual("fence 0 1\nfence 0 2\nfence 1 0\nswap 0 0\nswap 1 0", format_remedies(CURE))
        self.assertEqual(CURE, parse_remedies(TWO, format_remedies(CURE)))
        self.assertEqual((), parse_remedies(TWO, ""))

    def test_read_back(self):
        for program in (TWO, MESSAGE, THREE):
            for remedies in subsets(all_remedies(program)):
                text = format_remedies(remedies)
                self.assertEqual(remedies, parse_remedies(program, text))
                self.assertEqual(text, format_remedies(remedies=parse_remedies(text=text, program=program)))
        for program in SMALL + (GREATEST,):
            whole = tuple(all_remedies(program))
            self.assertEqual(whole, parse_remedies(program, format_remedies(whole)))
        self.assertIn("fence 5 16\nswap 0 0", format_remedies(tuple(all_remedies(GREATEST))))

    def test_one_thing_otherwise(self):
        kept = {True: 0, False: 0}
        for program, remedies in ((TWO, CURE), (TWO, CURE[:1]), (MIXED, (("fence", 2, 0), ("swap", 1, 1))), (TWO, ())):
            self.assertIs(True, is_remedies(program, remedies))
            for text in near_texts(format_remedies(remedies)):
                row = refused_remedies(program, text)
                kept[row is None] += 1
                self.refused(row, parse_remedies, program, text)
                if row is None:
                    self.assertEqual(text, format_remedies(parse_remedies(program, text)))
        self.assertGreater(min(kept.values()), 20)

    def test_rows(self):
        for row, text in (
            (None, ""), (1, "\n"), (1, "\nfence 0 1"), (1, "fence 0 1\n"), (0, "fence 0 3"), (0, "fence 2 0"),
            (None, "fence 0 2"), (0, "swap 0 1"), (0, "swap 0 2"), (1, "fence 0 1\nfence 0 1"), (1, "fence 0 1\nfence 0 0"),
            (1, "swap 0 0\nfence 0 0"), (2, "fence 0 1\nfence 1 0\nfence 0 2"), (1, "fence 1 0\nfence 0 2\nswap 9 9"),
            (0, "fence 0"), (0, "fence 0 1 2"), (0, "fence 0 01"), (0, "fence 00 1"), (0, "fence  0 1"), (0, "fence 0 1 "),
            (0, " fence 0 1"), (0, "Fence 0 1"), (0, "fence 0 x"), (0, "fence x 1"), (0, "fence"), (0, "store 0 0"),
            (0, "fence 0 -1"), (0, "fence 0 1000000000"), (0, "fence 1000000000 0"), (0, "fence 999999999 0"), (0, " "),
            (1, "swap 1 0\nswap 0 0"), (None, "swap 0 0\nswap 1 0"), (0, "do 0"), (0, "fence 0 1; fence 1 1"),
        ):
            self.assertEqual(row, refused_remedies(TWO, text), text)
            self.refused(row, parse_remedies, TWO, text)

    def test_of_the_program(self):
        self.assertEqual((("swap", 0, 1),), parse_remedies(MESSAGE, "swap 0 1"))
        self.refused(0, parse_remedies, TWO, "swap 0 1")

    def test_values_of_every_kind(self):
        self.check_values(lambda value: parse_remedies(TWO, value))
        for value in values():
            if isinstance(value, str):
                self.refused(0 if value else None, parse_remedies, TWO, value)


class Listings(unittest.TestCase):
    def check(self, program, buffers, run):
        """The listing of a run, column by column."""
        text = listing(program, buffers, run)
        rows = text.split("\n")
        self.assertEqual(len(run) + 1, len(rows))
        variables = sorted({row[1] for thread in program for row in thread if len(row) == 2})
        for number, (row, state) in enumerate(zip(rows, states_of(program, buffers, run))):
            done, waiting, memory = state
            words = "start" if number == 0 else " ".join(str(word) for word in run[number - 1])
            threads = " ".join(str(done[at]) + "/" + str(len(waiting[at])) for at in range(len(program)))
            held = ["-" if place is None else str(place[0]) + "." + str(place[1]) for place in memory]
            last = " ".join(name + "=" + value for name, value in zip(variables, held))
            self.assertEqual(
                str(number).rjust(3) + " | " + words.ljust(14) + " | " + threads + " | " + last, row)
        self.assertEqual(text, listing(run=run, buffers=buffers, program=program))

    def test_as_written(self):
        self.assertEqual(
            "  0 | start          | 0/0 0/0 | x=- y=-\n"
            "  1 | do 0           | 1/1 0/0 | x=- y=-\n"
            "  2 | flush 0 x      | 1/0 0/0 | x=0.0 y=-",
            listing(MESSAGE, LANES, (("do", 0), ("flush", 0, "x"))),
        )

    def test_runs(self):
        for program in SMALL:
            for buffers in BUFFERS:
                run = completed(program, buffers, ())
                for many in (0, 1, len(run) // 2, len(run)):
                    self.check(program, buffers, run[:many])

    def test_without_variables(self):
        self.assertEqual("  0 | start          | 0/0 0/0 | ", listing(EMPTY, LINE, ()))
        program = ((("fence",), ("fence",)), ())
        self.assertEqual(
            "  0 | start          | 0/0 0/0 | \n  1 | do 0           | 1/0 0/0 | \n  2 | do 0           | 2/0 0/0 | ",
            listing(program, LANES, (("do", 0), ("do", 0))),
        )
        self.check(program, LINE, (("do", 0),))

    def test_more_than_a_hundred_steps(self):
        for buffers in (("line", 1), ("line", 16), ("lanes", 16)):
            run = completed(GREATEST, buffers, ())
            self.assertEqual(192, len(run))
            self.check(GREATEST, buffers, run)
        self.assertTrue(listing(GREATEST, LINE, run).split("\n")[-1].startswith("192 | flush 5 "))

    def test_many_stores_wait_and_long_names(self):
        program = ((("store", "wxyz"),) * 12 + (("load", "a"),), (("swap", "a"),) * 11)
        run = (("do", 0),) * 12 + (("do", 1),) * 11 + (("flush", 0, "wxyz"), ("do", 0))
        self.check(program, ("line", 16), run)
        rows = listing(program, ("line", 16), run).split("\n")
        self.assertEqual(" 12 | do 0           | 12/12 0/0 | a=- wxyz=-", rows[12])
        self.assertEqual(" 24 | flush 0 wxyz   | 12/11 11/0 | a=1.10 wxyz=0.0", rows[24])
