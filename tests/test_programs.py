"""Point 5: the form of programs, and what BadProgram tells of those that have it not."""

import unittest

from soundborder.checker import fault, lets_by, types
from soundborder.errors import BadProgram
from soundborder.runs import run
from tests.samples import ODD_VALUES, plain

# Each is a fault in an empty program's body, but a statement.
STATEMENTS = (
    ("num", 0, 1), ("small", 0, 1), ("big", 0, 1, 2), ("none", 0, "num"), ("name", 0, 1, "num"), ("cell", 0, 1),
    ("blank", 0), ("get", 0, 1, "num"), ("put", 0, 1), ("field", 0, 1, "a"), ("field", 0, 1, "b"), ("cast", 0, 1),
    ("test", 0, ()), ("fun", 0, 0), ("call", 0, 0, 1), ("use", 0, 1, 2), ("show", 0),
)
DEEP_TYPE = ("cell", ("cell", ("cell", ("cell", "num"))))
FUNCTION = ("num", "num", (), 0)
FIFTEEN = tuple(("num", number, 1) for number in range(1, 16))
EIGHT = FIFTEEN[:8]


def within_tests(many, body):
    for _ in range(many):
        body = (("test", 0, body),)
    return body


class Form(unittest.TestCase):
    def part_of(self, program):
        """The part of the BadProgram that each function raises, or "program"."""
        parts = []
        for asked in (fault, lets_by, types, run):
            try:
                asked((), program)
                parts.append("program")
            except BadProgram as error:
                parts.append(error.part)
            except ValueError:
                parts.append("program")
        self.assertEqual(len(set(parts)), 1, program)
        return parts[0]

    def assert_statement(self, statement):
        self.assertEqual(self.part_of(plain(statement)), "program", statement)

    def assert_no_statement(self, statement):
        self.assertIsNone(self.part_of(plain(statement)), statement)

    def test_programs(self):
        for program in (plain(), ((FUNCTION,), ()), ((FUNCTION,) * 3, FIFTEEN)):
            self.assertEqual(self.part_of(program), "program")

    def test_each_statement(self):
        for statement in STATEMENTS:
            self.assert_statement(statement)

    def test_each_statement_with_an_item_more_or_less(self):
        for statement in STATEMENTS:
            self.assert_no_statement(statement + (0,))
            self.assert_no_statement(statement[:-1])
            self.assert_no_statement(list(statement))

    def test_each_item_of_each_statement_of_a_wrong_kind(self):
        # 7 is a name and a number, and "cell" is a word of statements.
        for statement in STATEMENTS:
            for at in range(len(statement)):
                for value in ODD_VALUES:
                    if not (value == "cell" if at == 0 else value == 7):
                        self.assert_no_statement(statement[:at] + (value,) + statement[at + 1:])

    def test_names(self):
        places = (
            ("num", 1), ("small", 1), ("big", 1), ("none", 1), ("name", 1), ("name", 2), ("cell", 1), ("cell", 2),
            ("blank", 1), ("get", 1), ("get", 2), ("put", 1), ("put", 2), ("field", 1), ("field", 2), ("cast", 1),
            ("cast", 2), ("test", 1), ("fun", 1), ("call", 1), ("call", 3), ("use", 1), ("use", 2), ("use", 3),
            ("show", 1),
        )
        by_word = {statement[0]: statement for statement in STATEMENTS}
        for word, at in places:
            statement = by_word[word]
            for name in (0, 40):
                self.assert_statement(statement[:at] + (name,) + statement[at + 1:])
            for name in (-1, 41, 1000, True, False, "0", None, [0], (0,)):
                self.assert_no_statement(statement[:at] + (name,) + statement[at + 1:])

    def test_numbers(self):
        for number in (0, 99):
            for statement in (("num", 0, number), ("small", 0, number), ("big", 0, number, 1), ("big", 0, 1, number)):
                self.assert_statement(statement)
        for number in (-1, 100, True, False, "1", None, [1], (1,)):
            for statement in (("num", 0, number), ("small", 0, number), ("big", 0, number, 1), ("big", 0, 1, number)):
                self.assert_no_statement(statement)

    def test_numbers_of_functions(self):
        for number in (0, 1, 2):
            self.assert_statement(("fun", 0, number))
            self.assert_statement(("call", 0, number, 1))
        for number in (-1, 3, True, False, "0", None):
            self.assert_no_statement(("fun", 0, number))
            self.assert_no_statement(("call", 0, number, 1))

    def test_types_in_statements(self):
        for word in ("none", "name", "get"):
            items = (0,) if word == "none" else (0, 1)
            self.assert_statement((word,) + items + (("cell", ("cell", ("cell", "num"))),))
            for kind in (DEEP_TYPE, "any", ("cell", "any"), ["cell", "num"], None, 0):
                self.assert_no_statement((word,) + items + (kind,))

    def test_fields(self):
        for field in ("c", "", "ab", "A", 0, None, ["a"], ("a",)):
            self.assert_no_statement(("field", 0, 1, field))

    def test_words(self):
        for word in ("", "Num", "let", "end", "tells", "function", 0, None, True, ("num",), ["num"], {}):
            self.assert_no_statement((word, 0, 1))
        for statement in ((), ("num",), "num", ["num", 0, 1], None, 0, {}):
            self.assert_no_statement(statement)

    def test_pairs(self):
        for program in (
            (), ((),), ((), (), ()), [(), ()], ([], ()), ((), []), ({}, ()), ((), {}), (None, ()), ((), None), "ab",
            (0, ()), ((), 0), None, ((), ("num", 0, 1)),
        ):
            self.assertIsNone(self.part_of(program), program)

    def test_three_functions_and_four(self):
        self.assertEqual(self.part_of(((FUNCTION,) * 3, ())), "program")
        self.assertIsNone(self.part_of(((FUNCTION,) * 4, ())))
        self.assertIsNone(self.part_of(((0,) * 4, ())))

    def test_the_first_item_that_is_no_function(self):
        bad = ("num", "num", (), -1)
        self.assertEqual(self.part_of(((bad,), ())), 0)
        self.assertEqual(self.part_of(((FUNCTION, bad), ())), 1)
        self.assertEqual(self.part_of(((FUNCTION, FUNCTION, bad), ())), 2)
        self.assertEqual(self.part_of(((FUNCTION, bad, bad), ())), 1)
        self.assertEqual(self.part_of(((bad, FUNCTION, bad), ())), 0)

    def test_a_bad_body_comes_before_a_bad_function(self):
        self.assertIsNone(self.part_of(((0,), (("show",),))))
        self.assertIsNone(self.part_of(((0,), FIFTEEN + (("show", 1),))))

    def test_functions(self):
        for bad in (
            (), ("num", "num", ()), FUNCTION + (0,), list(FUNCTION), None, 0, "num",
            ("any", "num", (), 0), ("num", "any", (), 0), (DEEP_TYPE, "num", (), 0), ("num", DEEP_TYPE, (), 0),
            (("cell", "any"), "num", (), 0), ("num", ("cell", "any"), (), 0), (None, "num", (), 0),
            ("num", "num", [], 0), ("num", "num", None, 0), ("num", "num", (("show",),), 0),
            ("num", "num", (), 41), ("num", "num", (), True), ("num", "num", (), None), ("num", "num", (), "0"),
        ):
            self.assertEqual(self.part_of(((bad,), ())), 0, bad)
            self.assertEqual(self.part_of(((FUNCTION, bad), ())), 1, bad)
        self.assertEqual(self.part_of(((("num", "num", (), 40),), ())), "program")

    def test_fifteen_statements_and_sixteen(self):
        sixteen = FIFTEEN + (("show", 1),)
        self.assertEqual(self.part_of(plain(*FIFTEEN)), "program")
        self.assertIsNone(self.part_of(plain(*sixteen)))
        self.assertEqual(self.part_of(((("num", "num", FIFTEEN, 0),), ())), "program")
        self.assertEqual(self.part_of(((("num", "num", sixteen, 0),), ())), 0)

    def test_eight_statements_of_a_test_and_nine(self):
        nine = EIGHT + (("show", 1),)
        for many in (1, 2):
            good, bad = within_tests(many, EIGHT), within_tests(many, nine)
            self.assertEqual(self.part_of(plain(*good)), "program")
            self.assertIsNone(self.part_of(plain(*bad)))
            self.assertEqual(self.part_of(((("num", "num", good, 0),), ())), "program")
            self.assertEqual(self.part_of(((("num", "num", bad, 0),), ())), 0)

    def test_two_tests_within_one_another_and_three(self):
        two, three = within_tests(2, ()), within_tests(3, ())
        self.assertEqual(self.part_of(plain(*two)), "program")
        self.assertIsNone(self.part_of(plain(*three)))
        self.assertEqual(self.part_of(((("num", "num", two, 0),), ())), "program")
        self.assertEqual(self.part_of(((("num", "num", three, 0),), ())), 0)
        beside = (("test", 0, (("test", 0, ()), ("test", 0, ()))), ("test", 0, within_tests(1, ())))
        self.assertEqual(self.part_of(plain(*beside)), "program")

    def test_many_tests_within_one_another(self):
        self.assertIsNone(self.part_of(plain(*within_tests(100000, ()))))

    def test_bodies_of_tests(self):
        for body in (None, [], 0, "", (0,), (("show",),), ((),)):
            self.assert_no_statement(("test", 0, body))


if __name__ == "__main__":
    unittest.main()
