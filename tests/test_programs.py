"""Programs, buffers, accesses, and what meets."""

import unittest

from ringfences.programs import accesses, is_buffers, is_program, meets, variables_of
from tests.helper import BUFFERS, EMPTY, GREATEST, LANES, LINE, MIXED, NAMES, SEVERAL, THREE, TWO
from tests.helper import listed, values, varied

ROW = ("load", "x")


def named(*names):
    return (tuple(("load", name) for name in names),)


class IsProgram(unittest.TestCase):
    def yes(self, value):
        self.assertIs(True, is_program(value), value)

    def no(self, value):
        self.assertIs(False, is_program(value), value)

    def test_programs(self):
        for program in SEVERAL + (GREATEST,):
            self.yes(program)

    def test_words(self):
        for word in ("store", "load", "swap"):
            self.yes((((word, "x"),),))
            self.no((((word,),),))
            self.no((((word, "x", "x"),),))
        self.yes(((("fence",),),))
        self.no(((("fence", "x"),),))
        for word in ("", "Store", "fences", "stores", "lock", "do", "flush", "STORE", "load ", 0, None, True, ()):
            self.no((((word, "x"),),))
            self.no((((word,),),))

    def test_number_of_threads(self):
        self.no(())
        for many in range(1, 7):
            self.yes(((),) * many)
            self.yes(((ROW,),) * many)
        for many in (7, 8, 60):
            self.no(((),) * many)
            self.no(((ROW,),) * many)

    def test_number_of_instructions(self):
        for many in range(17):
            self.yes(((ROW,) * many,))
            self.yes(((("fence",),) * many, (ROW,)))
        for many in (17, 18, 100):
            self.no(((ROW,) * many,))
            self.no(((ROW,), (("fence",),) * many))

    def test_number_of_variables(self):
        self.yes(named("a", "b", "c", "d", "e", "f"))
        self.yes(named("a", "b", "c", "d", "e", "f", "a", "f"))
        self.no(named("a", "b", "c", "d", "e", "f", "g"))
        self.yes((named("a", "b", "c")[0], named("d", "e", "f")[0], named("a", "f")[0]))
        self.no((named("a", "b", "c", "d")[0], named("e", "f", "g")[0]))
        self.yes(named("a", "aa", "aaa", "aaaa", "b", "ab"))

    def test_names_of_variables(self):
        for name in ("a", "z", "az", "abc", "wxyz", "zzzz"):
            self.yes(named(name))
        wrong = ["", "abcde", "abcdef", "A", "aB", "Zz", "x1", "1", "_", "a_b", " ", "a ", " a", "a\n", "a-b", "`", "{"]
        for name in wrong + [chr(code) for code in range(128) if not 97 <= code <= 122]:
            self.no(named(name))
        for name in (0, 1, True, None, ("x",), ["x"], {"x": "x"}, ()):
            self.no(named(name))

    def test_letters_that_are_lower_case_elsewhere(self):
        for name in ("\xe9", "\xdf", "\u03b1", "a\u0430"):
            self.no(named(name))

    def test_each_thread_and_instruction_counts(self):
        for at in range(6):
            for wrong in (None, 0, "", ["x"], (ROW, ("load", "X")), (("fence",), ("fence", 0))):
                self.no(((ROW,),) * at + (wrong,) + ((ROW,),) * (5 - at))

    def test_lists(self):
        for program in (TWO, THREE, MIXED, EMPTY):
            for value in listed(program):
                self.no(value)

    def test_near_values(self):
        for value in varied(TWO):
            self.assertIs(near_program(value), is_program(value), value)

    def test_any_value(self):
        programs = (((),), ((), ()), ((("fence",),),))
        threads = ((), (("fence",),))
        rows = (("fence",), ("store", "x"))
        for value in values():
            before = repr(value)
            self.assertIs(value in programs, is_program(value), value)
            self.assertIs(value in threads, is_program((value,)), value)
            self.assertIs(value in threads, is_program(TWO + (value,)), value)
            self.assertIs(value in rows, is_program(((value,),)), value)
            self.assertIs(value in ("a", "x", "do", "line"), is_program(((("store", value),),)), value)
            self.assertIs(value == "store", is_program((((value, "x"),),)), value)
            self.assertIs(value == "fence", is_program((((value,),),)), value)
            self.assertEqual(before, repr(value))


def near_program(value):
    """What is_program should return of a value that is built from words, numbers, lists and tuples."""
    def is_row(row):
        if type(row) is not tuple or [type(word) for word in row] not in ([str], [str, str]):
            return False
        if len(row) == 1:
            return row[0] == "fence"
        return row[0] in ("store", "load", "swap") and row[1] in ("x", "y", "zz", "do")

    return type(value) is tuple and 0 < len(value) < 7 and all(
        type(thread) is tuple and all(is_row(row) for row in thread) for thread in value
    )


class IsBuffers(unittest.TestCase):
    def test_words_and_rooms(self):
        for word in ("line", "lanes"):
            for room in range(-3, 20):
                self.assertIs(1 <= room <= 16, is_buffers((word, room)), (word, room))
            for room in (10 ** 30, -10 ** 30, True, False, None, "4", (4,), [4], {4: 4}, ()):
                self.assertIs(False, is_buffers((word, room)), (word, room))

    def test_other_words(self):
        for word in ("", "lane", "lines", "Line", "LANES", "line ", "li", "e", 0, 1, True, None, ("line",), ["line"], {}):
            self.assertIs(False, is_buffers((word, 4)), word)

    def test_other_forms(self):
        for value in (["line", 4], (4, "line"), ("line",), ("line", 4, 4), ("line", 4, None), "line", 4, (LINE,)):
            self.assertIs(False, is_buffers(value), value)
        for buffers in BUFFERS:
            self.assertIs(True, is_buffers(buffers))
            for value in listed(buffers):
                self.assertIs(False, is_buffers(value))

    def test_any_value(self):
        for value in values():
            self.assertIs(False, is_buffers(value), value)
            self.assertIs(value in ("line", "lanes"), is_buffers((value, 4)), value)
            self.assertIs(type(value) is int and 0 < value < 17, is_buffers(("lanes", value)), value)


class Accesses(unittest.TestCase):
    def test_variables(self):
        self.assertEqual(("x", "y"), variables_of(TWO))
        self.assertEqual(("x", "y"), variables_of(MIXED))
        self.assertEqual((), variables_of(EMPTY))
        self.assertEqual((), variables_of(((("fence",),),)))
        self.assertEqual(NAMES, variables_of(GREATEST))
        rows = tuple((word, name) for word, name in zip(("load", "swap", "store", "load"), ("z", "b", "ab", "a")))
        self.assertEqual(("a", "ab", "b", "z"), variables_of((rows, rows)))

    def test_accesses(self):
        self.assertEqual(((0, 0), (0, 1), (1, 0), (1, 1)), accesses(TWO))
        self.assertEqual(((0, 0), (0, 1), (0, 2), (0, 3), (0, 5), (1, 0), (1, 1), (1, 2)), accesses(MIXED))
        self.assertEqual((), accesses(EMPTY))
        self.assertEqual(((1, 1),), accesses(((("fence",),), (("fence",), ("swap", "x"), ("fence",)), ())))
        self.assertEqual(tuple((thread, at) for thread in range(6) for at in range(16)), accesses(GREATEST))

    def test_no_fence_is_an_access(self):
        for program in SEVERAL:
            found = accesses(program)
            self.assertEqual(tuple(sorted(found)), found)
            for thread, rows in enumerate(program):
                for at, row in enumerate(rows):
                    self.assertEqual(row != ("fence",), (thread, at) in found)


class Meets(unittest.TestCase):
    WORDS = ("load", "store", "swap")

    def check(self, program, one, other, wanted):
        self.assertIs(wanted, meets(program, one, other), (program, one, other))
        self.assertIs(wanted, meets(program, other, one), (program, other, one))

    def test_two_threads(self):
        for word in self.WORDS:
            for second in self.WORDS:
                wanted = (word, second) != ("load", "load")
                self.check((((word, "x"),), ((second, "x"),)), (0, 0), (1, 0), wanted)
                self.check((((word, "x"),), ((second, "y"),)), (0, 0), (1, 0), False)

    def test_one_thread(self):
        for word in self.WORDS:
            for second in self.WORDS:
                wanted = (word, second) != ("load", "load")
                self.check((((word, "x"), ("fence",), (second, "x")),), (0, 0), (0, 2), wanted)
                self.check((((word, "x"), ("fence",), (second, "xx")),), (0, 0), (0, 2), False)

    def test_a_place_with_itself(self):
        for word in self.WORDS:
            self.check((((word, "x"),),), (0, 0), (0, 0), word != "load")

    def test_far_places(self):
        for one in accesses(MIXED):
            for other in accesses(MIXED):
                rows = [MIXED[thread][at] for thread, at in (one, other)]
                wanted = rows[0][1] == rows[1][1] and [word for word, _ in rows] != ["load", "load"]
                self.check(MIXED, one, other, wanted)


class Names(unittest.TestCase):
    def test_by_name(self):
        self.assertIs(True, is_program(value=TWO))
        self.assertIs(True, is_buffers(value=LANES))
        self.assertEqual(("x", "y"), variables_of(program=TWO))
        self.assertEqual(5, len(accesses(program=THREE)))
        self.assertIs(True, meets(other=(1, 1), one=(0, 0), program=TWO))
