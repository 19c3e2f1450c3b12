"""Points 15 and 16: what one design lets by and another one does not, and checked designs."""

import unittest

from soundborder.checker import lets_by
from soundborder.compares import checked, lets_by_all, parting, strengths, unchecked
from soundborder.errors import BadDesign
from soundborder.runs import run
from tests.samples import ALL, BREAKERS, ODD_VALUES, every_design, plain, without

# The programs of point 15, by the strengths.
PARTINGS = {
    "against": BREAKERS[("against",)],
    "along": (
        ((("cell", "small"), "num", (("get", 1, 0, "small"), ("field", 2, 1, "a")), 2),),
        (("big", 0, 1, 2), ("cell", 1, 0), ("call", 2, 0, 1)),
    ),
    "args": BREAKERS[("args",)],
    "blank": plain(("blank", 0)),
    "calls": (
        (("num", "num", (), 0),),
        (("small", 0, 1), ("cell", 1, 0), ("num", 2, 1), ("test", 1, (("call", 3, 0, 2), ("get", 4, 1, "big")))),
    ),
    "cast": plain(("small", 0, 1), ("cast", 1, 0)),
    "keep": plain(("small", 0, 1), ("cell", 1, 0), ("test", 1, (("get", 2, 1, "big"),))),
    "none": plain(("none", 0, "num")),
    "put": plain(("num", 0, 1), ("cell", 1, 0), ("put", 1, 0)),
    "share": plain(("num", 0, 1), ("cell", 1, 0), ("name", 2, 1, ("cell", "num"))),
}
STRENGTHS = tuple(PARTINGS)
PLAIN_DESIGNS = [design for design in every_design() if not any(" " in word for word in design)]


def least_with(word):
    """The least design that has the strength."""
    return ("calls", "keep") if word == "calls" else (word,)


class Examples(unittest.TestCase):
    def test_the_examples(self):
        self.assertEqual(strengths(("along checked", "calls", "put")), ("along", "put"))
        self.assertIs(lets_by_all(("along",), ("along checked",)), True)
        self.assertEqual(parting((), ("put",)), ((), (("num", 0, 1), ("cell", 1, 0), ("put", 1, 0))))
        self.assertEqual(checked(("along", "put")), ("along checked", "put"))
        self.assertEqual(unchecked(("along checked", "put")), ("along", "put"))


class Strengths(unittest.TestCase):
    def test_of_each_word_alone(self):
        for word in ALL:
            if word == "calls":
                self.assertEqual(strengths((word,)), ())
            else:
                self.assertEqual(strengths((word,)), (word.replace(" checked", ""),))

    def test_checked_words_beside_unchecked_ones(self):
        self.assertEqual(strengths(("along", "along checked")), ("along",))
        self.assertEqual(strengths(("cast checked", "none", "none checked")), ("cast", "none"))

    def test_calls_by_keep_alone(self):
        self.assertEqual(strengths(("calls", "put", "share")), ("put", "share"))
        self.assertEqual(strengths(("calls", "keep")), ("calls", "keep"))
        self.assertEqual(strengths(without("keep")), tuple(w for w in STRENGTHS if w not in ("calls", "keep")))

    def test_of_the_empty_design_and_of_all_words(self):
        self.assertEqual(strengths(()), ())
        self.assertEqual(strengths(ALL), STRENGTHS)


class LetsByAll(unittest.TestCase):
    def test_one_word_more_or_less(self):
        for word in STRENGTHS:
            had = least_with(word)
            self.assertIs(lets_by_all(had, ()), True)
            self.assertIs(lets_by_all((), had), False)
            self.assertIs(lets_by_all(had, had), True)

    def test_the_empty_design_and_the_one_of_all_words(self):
        self.assertIs(lets_by_all((), ()), True)
        self.assertIs(lets_by_all(ALL, ()), True)
        self.assertIs(lets_by_all((), ALL), False)
        for design in PLAIN_DESIGNS[::7]:
            self.assertIs(lets_by_all(ALL, design), True)
            self.assertIs(lets_by_all(design, ALL), strengths(design) == STRENGTHS)

    def test_calls_without_keep_lets_nothing_more_by(self):
        self.assertIs(lets_by_all((), ("calls",)), True)
        self.assertIs(lets_by_all(("keep",), ("calls",)), True)
        self.assertIs(lets_by_all(("calls",), ("calls", "keep")), False)
        self.assertIs(lets_by_all(("keep",), ("calls", "keep")), False)

    def test_checked_words_let_by_what_unchecked_ones_do(self):
        for word in ("along", "args", "cast", "none"):
            one, other = (word,), (word + " checked",)
            self.assertIs(lets_by_all(one, other) and lets_by_all(other, one), True)
            self.assertIs(lets_by_all(other, one + other), True)

    def test_designs_beside_one_another(self):
        self.assertIs(lets_by_all(("put",), ("share",)), False)
        self.assertIs(lets_by_all(("put", "share"), ("share",)), True)


class Parting(unittest.TestCase):
    def test_the_program_of_each_strength(self):
        for word in STRENGTHS:
            self.assertEqual(parting((), least_with(word)), PARTINGS[word])

    def test_calls_is_told_where_keep_is_there_and_before_keep(self):
        self.assertEqual(parting(("keep",), ("calls", "keep")), PARTINGS["calls"])
        self.assertEqual(parting(("calls",), ("calls", "keep")), PARTINGS["calls"])
        self.assertEqual(parting((), ("keep",)), PARTINGS["keep"])

    def test_none_where_all_is_let_by(self):
        for one, other in (((), ()), (ALL, ()), (ALL, ALL), ((), ("calls",)), (("none",), ("none checked",))):
            self.assertIsNone(parting(one, other))

    def test_the_least_strength_that_is_lacked(self):
        for at, word in enumerate(STRENGTHS):
            had = tuple(sorted(set(STRENGTHS[:at] + ("keep",))))
            if word != "keep":
                self.assertEqual(parting(had, ALL), PARTINGS[word])
        self.assertEqual(parting(without("keep", "put", "share"), ALL), PARTINGS["calls"])
        self.assertEqual(parting(("against", "along", "args", "blank", "calls"), without("keep")), PARTINGS["cast"])
        self.assertEqual(parting(("against", "along"), without("args", "args checked", "blank")), PARTINGS["calls"])
        self.assertIsNone(parting(STRENGTHS, ALL))

    def test_checked_words_part_as_unchecked_ones_do(self):
        for word in ("along", "args", "cast", "none"):
            self.assertEqual(parting((), (word + " checked",)), PARTINGS[word])
            self.assertIsNone(parting((word + " checked",), (word,)))

    def test_each_is_let_by_exactly_where_the_strength_is_had(self):
        for design in PLAIN_DESIGNS:
            for word in STRENGTHS:
                told = parting((), least_with(word))
                self.assertIs(lets_by(design, told), word in strengths(design), (design, word))

    def test_by_other_and_not_by_one(self):
        designs = every_design()[::401]
        for one in designs:
            for other in designs:
                told = parting(one, other)
                self.assertIs(lets_by_all(one, other), told is None)
                if told is not None:
                    self.assertIs(lets_by(other, told), True, (one, other))
                    self.assertIs(lets_by(one, told), False, (one, other))


class CheckedAndUnchecked(unittest.TestCase):
    def test_each_word_alone(self):
        for word in ALL:
            other = word.replace(" checked", "")
            self.assertEqual(unchecked((word,)), (other,))
            if other in ("along", "args", "cast", "none"):
                self.assertEqual(checked((word,)), (other + " checked",))
            else:
                self.assertEqual(checked((word,)), (word,))

    def test_a_word_beside_its_checked_word(self):
        for word in ("along", "args", "cast", "none"):
            both = (word, word + " checked")
            self.assertEqual(checked(both), both[1:])
            self.assertEqual(unchecked(both), both[:1])

    def test_the_empty_design_and_the_one_of_all_words(self):
        self.assertEqual((checked(()), unchecked(())), ((), ()))
        self.assertEqual(checked(ALL), without("along", "args", "cast", "none"))
        self.assertEqual(unchecked(ALL), STRENGTHS)

    def test_words_stay_ascending(self):
        self.assertEqual(checked(("along", "args", "blank")), ("along checked", "args checked", "blank"))
        self.assertEqual(unchecked(("cast checked", "keep", "none checked")), ("cast", "keep", "none"))

    def test_runs_on_the_checked_one_stop_at_the_most(self):
        programs = [(functions, (("num", 40, 7), ("show", 40)) + body) for functions, body in BREAKERS.values()]
        for design in every_design()[::11]:
            for program in programs:
                if lets_by(design, program):
                    loose = run(unchecked(design), program)
                    strict = run(checked(design), program)
                    if strict != loose:
                        self.assertEqual(strict[0], "stops")
                        self.assertEqual(strict[2], loose[2][:len(strict[2])])


class WrongArguments(unittest.TestCase):
    def test_what_is_no_design(self):
        for value in ODD_VALUES + (("put", "along"), ("put", "put"), ("put checked",)):
            for asked in (strengths, checked, unchecked):
                with self.assertRaises(BadDesign):
                    asked(value)
            for asked in (lets_by_all, parting):
                for one, other in ((value, ()), ((), value), (value, value), (ALL, value), (value, ALL)):
                    with self.assertRaises(BadDesign):
                        asked(one, other)

    def test_lists_are_not_modified(self):
        one, other = ["put", "along"], ["none", "cast"]
        for asked in (lets_by_all, parting):
            with self.assertRaises(BadDesign):
                asked(one, other)
        for asked in (strengths, checked, unchecked):
            with self.assertRaises(BadDesign):
                asked(one)
        self.assertEqual((one, other), (["put", "along"], ["none", "cast"]))


if __name__ == "__main__":
    unittest.main()
