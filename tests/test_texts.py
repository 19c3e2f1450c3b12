"""Point 17: types and programs as texts, written and read."""

import unittest

from soundborder.errors import BadDesign, BadProgram, BadType, InvalidText, NotText
from soundborder.texts import read_program, write_program, write_type
from tests.samples import BREAKERS, ODD_VALUES, plain

TYPES = {
    "num": "num",
    "small": "small",
    "big": "big",
    "[num]": ("cell", "num"),
    "[[small]]": ("cell", ("cell", "small")),
    "[[[big]]]": ("cell", ("cell", ("cell", "big"))),
    "(num>small)": ("fun", "num", "small"),
    "([big]>num)": ("fun", ("cell", "big"), "num"),
    "(num>[big])": ("fun", "num", ("cell", "big")),
    "[(num>[small])]": ("cell", ("fun", "num", ("cell", "small"))),
    "((num>small)>(small>num))": ("fun", ("fun", "num", "small"), ("fun", "small", "num")),
    "(([num]>big)>[(big>num)])": ("fun", ("fun", ("cell", "num"), "big"), ("cell", ("fun", "big", "num"))),
    "([[num]]>[[big]])": ("fun", ("cell", ("cell", "num")), ("cell", ("cell", "big"))),
    "(((num>num)>num)>big)": ("fun", ("fun", ("fun", "num", "num"), "num"), "big"),
    "(big>(num>(num>num)))": ("fun", "big", ("fun", "num", ("fun", "num", "num"))),
}
STATEMENTS = {
    "num 0 7": ("num", 0, 7),
    "small 40 99": ("small", 40, 99),
    "big 1 0 10": ("big", 1, 0, 10),
    "none 2 [num]": ("none", 2, ("cell", "num")),
    "name 3 4 (num>big)": ("name", 3, 4, ("fun", "num", "big")),
    "cell 5 6": ("cell", 5, 6),
    "blank 7": ("blank", 7),
    "get 8 9 small": ("get", 8, 9, "small"),
    "put 10 11": ("put", 10, 11),
    "field 12 13 a": ("field", 12, 13, "a"),
    "field 14 15 b": ("field", 14, 15, "b"),
    "cast 16 17": ("cast", 16, 17),
    "test 18\nend": ("test", 18, ()),
    "fun 19 2": ("fun", 19, 2),
    "call 20 0 21": ("call", 20, 0, 21),
    "use 22 23 24": ("use", 22, 23, 24),
    "show 25": ("show", 25),
}
NUMBERS = ("num", "num", (), 0)
NUMBERS_TEXT = "function num num\ntells 0\n"
SHOW = ("show", 0)


def shows(many):
    return "\nshow 0" * many


class Examples(unittest.TestCase):
    def test_the_examples(self):
        self.assertEqual(write_type(("fun", ("cell", "big"), "num")), "([big]>num)")
        self.assertEqual(read_program("main\nnum 0 7\nshow 0"), ((), (("num", 0, 7), ("show", 0))))
        self.assertEqual(
            write_program(((("num", "num", (), 0),), (("none", 0, ("cell", "num")),))),
            "function num num\ntells 0\nmain\nnone 0 [num]",
        )
        with self.assertRaises(InvalidText) as caught:
            read_program("main\ntest 0")
        self.assertEqual(caught.exception.line, 3)


class WriteType(unittest.TestCase):
    def test_types(self):
        for text, kind in TYPES.items():
            self.assertEqual(write_type(kind), text)

    def test_what_is_no_type(self):
        four = ("cell", ("cell", ("cell", ("cell", "num"))))
        for value in ODD_VALUES + (("cell", "any"), ("cell",), ("fun", "num"), ["cell", "num"], "[num]", four):
            with self.assertRaises(BadType):
                write_type(value)


class Written(unittest.TestCase):
    def assert_text(self, program, text):
        self.assertEqual(write_program(program), text)
        self.assertEqual(read_program(text), program)

    def test_the_least_program(self):
        self.assert_text(((), ()), "main")

    def test_each_statement(self):
        for text, statement in STATEMENTS.items():
            self.assert_text(plain(statement), "main\n" + text)

    def test_several_statements(self):
        texts = list(STATEMENTS)[:15]
        self.assert_text(plain(*[STATEMENTS[text] for text in texts]), "\n".join(["main"] + texts))

    def test_each_type_at_each_place_of_a_type(self):
        for text, kind in TYPES.items():
            self.assert_text(plain(("none", 1, kind)), f"main\nnone 1 {text}")
            self.assert_text(plain(("name", 1, 2, kind)), f"main\nname 1 2 {text}")
            self.assert_text(plain(("get", 1, 2, kind)), f"main\nget 1 2 {text}")
            self.assert_text((((kind, "num", (), 3),), ()), f"function {text} num\ntells 3\nmain")
            self.assert_text(((("num", kind, (), 40),), ()), f"function num {text}\ntells 40\nmain")

    def test_functions_and_their_bodies(self):
        functions = (
            ("num", "big", (("big", 1, 0, 0),), 1),
            ("small", "num", (("field", 1, 0, "a"), ("test", 2, (SHOW,))), 1),
            (("cell", "num"), "num", (("get", 1, 0, "num"), ("show", 1)), 1),
        )
        self.assert_text((functions, (("num", 0, 1), ("call", 1, 0, 0))), "\n".join((
            "function num big", "big 1 0 0", "tells 1",
            "function small num", "field 1 0 a", "test 2", "show 0", "end", "tells 1",
            "function [num] num", "get 1 0 num", "show 1", "tells 1",
            "main", "num 0 1", "call 1 0 0",
        )))

    def test_tests_within_tests(self):
        inner = ("test", 2, (("show", 3),))
        self.assert_text(
            plain(("test", 1, (inner, SHOW, ("test", 4, ()))), SHOW),
            "main\ntest 1\ntest 2\nshow 3\nend\nshow 0\ntest 4\nend\nend\nshow 0",
        )

    def test_the_told_programs(self):
        for program in BREAKERS.values():
            self.assertEqual(read_program(write_program(program)), program)
        self.assert_text(BREAKERS[("calls", "keep", "put")], "\n".join((
            "function [small] num", "small 1 1", "put 0 1", "num 2 0", "tells 2",
            "main", "big 0 1 2", "name 1 0 small", "cell 2 1",
            "test 2", "call 3 0 2", "get 4 2 big", "field 5 4 b", "end",
        )))

    def test_programs_that_no_design_lets_by(self):
        self.assert_text(plain(SHOW, SHOW, ("fun", 0, 2), ("num", 0, 0), ("num", 0, 0)), "\n".join((
            "main", "show 0", "show 0", "fun 0 2", "num 0 0", "num 0 0",
        )))

    def test_as_many_as_there_may_be(self):
        eight = (SHOW,) * 8
        self.assert_text(plain(*[SHOW] * 15), "main" + shows(15))
        self.assert_text(((("num", "num", (SHOW,) * 15, 0),), ()), f"function num num{shows(15)}\ntells 0\nmain")
        self.assert_text(((NUMBERS,) * 3, ()), NUMBERS_TEXT * 3 + "main")
        self.assert_text(plain(*[("test", 0, eight)] * 15), "main" + f"\ntest 0{shows(8)}\nend" * 15)
        self.assert_text(
            plain(("test", 0, (("test", 0, eight),) * 8)), "main\ntest 0" + f"\ntest 0{shows(8)}\nend" * 8 + "\nend",
        )


class WriteWhatIsNoProgram(unittest.TestCase):
    def test_parts(self):
        cases = [(value, None) for value in ODD_VALUES]
        cases += [
            (((), (SHOW,) * 16), None), (((NUMBERS,) * 4, ()), None), (((), (("show", 41),)), None),
            (((), (("show", True),)), None), (((), (("field", 0, 1, "c"),)), None),
            (((), (("none", 0, ("cell", "any")),)), None), (((0,), ()), 0), (((NUMBERS, NUMBERS[:3]), ()), 1),
            (((NUMBERS, NUMBERS, ("num", "num", (), False)), ()), 2), (((0, 0), (SHOW,) * 16), None),
            (((0, NUMBERS, 0), ()), 0), ("main", None), (BadDesign("main"), None),
        ]
        for value, part in cases:
            with self.assertRaises(BadProgram) as caught:
                write_program(value)
            self.assertEqual(caught.exception.part, part, value)


class Refused(unittest.TestCase):
    def assert_line(self, text, line):
        with self.assertRaises(InvalidText) as caught:
            read_program(text)
        self.assertEqual(caught.exception.line, line, text)


class Lines(Refused):
    def test_a_line_that_lacks(self):
        self.assert_line("function num num", 2)
        self.assert_line("function num num\nshow 0", 3)
        self.assert_line("function num num\ntells 0", 3)
        self.assert_line(NUMBERS_TEXT * 3 + "function num num", 7)
        self.assert_line("main\ntest 0", 3)
        self.assert_line("main\ntest 0\ntest 0\nend", 5)
        self.assert_line("function num num\ntest 0\ntells 0\nmain", 3)
        self.assert_line("function num num\nmain", 2)
        self.assert_line("tells 0\nmain", 1)
        self.assert_line("show 0", 1)
        self.assert_line("function num num\ntells 0\nshow 0", 3)

    def test_an_empty_line(self):
        self.assert_line("", 1)
        self.assert_line("\n", 1)
        self.assert_line("\nmain", 1)
        self.assert_line("main\n", 2)
        self.assert_line("main\n\nshow 0", 2)
        self.assert_line("main\ntest 0\n\nend", 3)
        self.assert_line("function num num\n\ntells 0\nmain", 2)
        self.assert_line(NUMBERS_TEXT + "\nmain", 3)

    def test_a_line_too_many(self):
        self.assert_line("main\nmain", 2)
        self.assert_line("main\nend", 2)
        self.assert_line("main\ntells 0", 2)
        self.assert_line("main\nfunction num num\ntells 0", 2)
        self.assert_line("main\ntest 0\nend\nend", 4)
        self.assert_line("main\ntest 0\nmain\nend", 3)
        self.assert_line("function num num\nend\ntells 0\nmain", 2)
        self.assert_line("function num num\nfunction num num\ntells 0\nmain", 2)
        self.assert_line("function num num\ntells 0\ntells 0\nmain", 3)
        self.assert_line(NUMBERS_TEXT + "end\nmain", 3)

    def test_the_first_of_several(self):
        self.assert_line("main\nshow 0\nshow 41\nshow 42", 3)
        self.assert_line("main\nshow 41\nend\ntest 0", 2)

    def test_a_fourth_function(self):
        self.assertEqual(read_program(NUMBERS_TEXT * 3 + "main"), ((NUMBERS,) * 3, ()))
        self.assert_line(NUMBERS_TEXT * 4 + "main", 7)

    def test_a_sixteenth_statement(self):
        self.assert_line("main" + shows(16), 17)
        self.assert_line("main" + shows(15) + "\ntest 0\nend", 17)
        self.assert_line("main" + "\ntest 0\nshow 0\nend" * 16, 47)
        self.assert_line(f"function num num{shows(16)}\ntells 0\nmain", 17)
        self.assert_line(f"{NUMBERS_TEXT}main{shows(16)}", 19)

    def test_a_ninth_statement_of_a_test(self):
        self.assert_line(f"main\ntest 0{shows(9)}\nend", 11)
        self.assert_line(f"main\ntest 0\ntest 0{shows(9)}\nend\nend", 12)
        self.assert_line("main\ntest 0" + "\ntest 0\nend" * 9 + "\nend", 19)
        self.assert_line(f"main\ntest 0{shows(8)}", 11)

    def test_a_third_test_within_another(self):
        tests = "test 0\ntest 0\ntest 0\nend\nend\nend"
        self.assert_line("main\n" + tests, 4)
        self.assert_line(f"function num num\n{tests}\ntells 0\nmain", 4)
        self.assert_line("main\ntest 0\ntest 0\nend\ntest 0\nshow 0\ntest 0", 7)


class Items(Refused):
    def assert_second(self, *lines):
        """None of these can be the second line of a text."""
        for line in lines:
            self.assert_line("main\n" + line, 2)

    def test_a_word_more_or_less(self):
        for text in STATEMENTS:
            line, *more = text.split("\n")
            rest = "".join(["\n" + other for other in more])
            self.assert_second(line + " 0" + rest, line + " num" + rest, line.rpartition(" ")[0] + rest)
        self.assert_line("function num\ntells 0\nmain", 1)
        self.assert_line("function num num num\ntells 0\nmain", 1)
        self.assert_line("function num num\ntells\nmain", 2)
        self.assert_line("function num num\ntells 0 0\nmain", 2)
        self.assert_line("main 0", 1)
        self.assert_line("main\ntest 0\nend 0", 3)

    def test_blanks(self):
        for text in STATEMENTS:
            line, *more = text.split("\n")
            rest = "".join(["\n" + other for other in more])
            self.assert_second(
                " " + line + rest, line + " " + rest, line.replace(" ", "  ", 1) + rest,
                line.replace(" ", "\t", 1) + rest, line + "\r" + rest,
            )
        for text, line in ((" main", 1), ("main ", 1), ("main\r\nshow 0", 1), ("main\ntest 0\n end", 3)):
            self.assert_line(text, line)
        self.assert_line("function num  num\ntells 0\nmain", 1)
        self.assert_line("main\x0bshow 0", 1)
        self.assert_line("main\nshow 0\u2028show 0", 2)

    def test_numbers(self):
        for number in ("", "00", "07", "-1", "-0", "+7", " 7", "7 ", "7.0", "7_0", "0x7", "seven", "\u0667", "\u00b2"):
            self.assert_second(f"show {number}", f"num 0 {number}", f"fun 0 {number}", f"num {number} 0")
            self.assert_line(f"function num num\ntells {number}\nmain", 2)

    def test_the_greatest_numbers(self):
        read_program("main\nnum 40 99\nfun 40 2")
        read_program("function num num\ntells 40\nmain")
        self.assert_second("num 41 0", "num 0 100", "big 0 1 100", "fun 0 3", "call 0 3 0", "show 41", "get 0 41 num")
        self.assert_second("use 0 0 41", "test 41\nend", "num 0 " + "9" * 5000)
        self.assert_line("function num num\ntells 41\nmain", 2)

    def test_words(self):
        self.assert_second("Num 0 0", "number 0 0", "any 0", "0", "num", "shows 0", "\u017fhow 0", "tell 0", "# 0")
        self.assert_second("field 0 1 c", "field 0 1 A", "field 0 1 ab", "field 0 1 0", "field 0 1 ")
        self.assert_line("Main", 1)
        self.assert_line("function num num\nTells 0\nmain", 2)

    def test_types(self):
        wrong = (
            "any", "[any]", "[]", "[num", "num]", "[num]]", "[[num]", "(num>num", "num>num)", "(num)", "(num>)",
            "(>num)", "(num>num>num)", "(num,num)", "(num>num]", "[num)", "()", "[", "(", "numnum", "[num][num]",
            "[[[[num]]]]", "(num>[[[num]]])", "([[[num]]]>num)", "[((num>(num>num))>num)]", "cell", "Num", "n", "0",
            "[[[(num>num)]]]", "(num>num)num", "[" * 5000, "(" * 5000, "[" * 5000 + "num" + "]" * 5000,
        )
        for text in wrong:
            self.assert_second(f"none 0 {text}", f"name 0 1 {text}", f"get 0 1 {text}")
            self.assert_line(f"function {text} num\ntells 0\nmain", 1)
            self.assert_line(f"function num {text}\ntells 0\nmain", 1)
        self.assert_second("none 0 [ num]", "none 0 (num > num)", "none 0 ")


class NoText(unittest.TestCase):
    def test_what_is_no_string(self):
        for value in ODD_VALUES + (plain(), ["main"], ("main",), {"main": 1}):
            if not isinstance(value, str):
                with self.assertRaises(NotText):
                    read_program(value)

    def test_strings_that_are_no_programs(self):
        for value in ODD_VALUES:
            if isinstance(value, str):
                with self.assertRaises(InvalidText) as caught:
                    read_program(value)
                self.assertEqual(caught.exception.line, 1)


if __name__ == "__main__":
    unittest.main()
