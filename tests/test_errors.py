"""The interface's errors, and point 1 of what holds of arguments."""

import copy
import unittest

from soundborder import errors
from soundborder.checker import fault, lets_by, types
from soundborder.designs import is_design, is_type, lies_within
from soundborder.errors import BadDesign, BadProgram, BadType, BorderError, InvalidText, NotMade
from soundborder.runs import run
from tests.samples import BREAKERS, ODD_VALUES, plain

NAMES = ("BadType", "BadDesign", "BadProgram", "NotMade", "NotText", "InvalidText", "NotNow", "NothingToUndo")
ASKED = (fault, lets_by, types, run)
NOT_LET_BY = plain(("show", 0))


class ErrorClasses(unittest.TestCase):
    def test_each_stands_directly_below_the_base(self):
        self.assertEqual(BorderError.__bases__, (ValueError,))
        for name in NAMES:
            self.assertEqual(getattr(errors, name).__bases__, (BorderError,), name)
            self.assertEqual(getattr(errors, name).__module__, "soundborder.errors", name)

    def test_fields(self):
        self.assertIsNone(BadProgram(None).part)
        self.assertEqual(BadProgram(2).part, 2)
        self.assertEqual(InvalidText(3).line, 3)

    def test_those_without_fields_take_words(self):
        for name in ("BadType", "BadDesign", "NotMade", "NotText", "NotNow", "NothingToUndo"):
            self.assertEqual(str(getattr(errors, name)("words")), "words")


class OddValues(unittest.TestCase):
    def test_none_is_a_type_or_a_design(self):
        for value in ODD_VALUES:
            self.assertIs(is_type(value), False, value)
            self.assertIs(is_design(value), False, value)

    def test_as_types(self):
        for value in ODD_VALUES:
            with self.assertRaises(BadType):
                lies_within((), value, "num")
            with self.assertRaises(BadType):
                lies_within((), "num", value)

    def test_as_designs(self):
        for value in ODD_VALUES:
            with self.assertRaises(BadDesign):
                lies_within(value, "num", "num")
            for asked in ASKED:
                with self.assertRaises(BadDesign):
                    asked(value, plain())

    def test_as_programs(self):
        for value in ODD_VALUES:
            for asked in ASKED:
                with self.assertRaises(BadProgram) as caught:
                    asked((), value)
                self.assertIsNone(caught.exception.part, value)


class TheFirstError(unittest.TestCase):
    def test_design_before_types(self):
        for value in ODD_VALUES:
            with self.assertRaises(BadDesign):
                lies_within(value, value, value)

    def test_design_before_program(self):
        for asked in ASKED:
            for program in (None, plain(("show",)), NOT_LET_BY):
                with self.assertRaises(BadDesign):
                    asked(["put"], program)

    def test_program_before_what_is_not_made(self):
        bad_too = ((0,), (("show", 0),))
        for asked in (types, run):
            with self.assertRaises(BadProgram) as caught:
                asked((), bad_too)
            self.assertEqual(caught.exception.part, 0)
            with self.assertRaises(NotMade):
                asked((), NOT_LET_BY)


class Arguments(unittest.TestCase):
    def test_none_is_modified(self):
        for lot, program in BREAKERS.items():
            kept = copy.deepcopy(program)
            for asked in ASKED:
                asked(lot, program)
                self.assertEqual(program, kept)

    def test_a_bad_one_is_not_modified(self):
        design, program = ["put"], [[], [["num", 0, 1]]]
        for asked in ASKED:
            with self.assertRaises(BadDesign):
                asked(design, program)
            with self.assertRaises(BadProgram):
                asked((), program)
        self.assertEqual((design, program), (["put"], [[], [["num", 0, 1]]]))

    def test_answers_do_not_depend_on_earlier_ones(self):
        for lot, program in BREAKERS.items():
            self.assertEqual(run(lot, program), run(lot, program))
            self.assertEqual(types(lot, program), types(lot, program))


if __name__ == "__main__":
    unittest.main()
