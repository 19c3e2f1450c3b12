"""Points 12 to 14: sound designs, programs that go wrong by the others, and what is to be given up."""

import itertools
import unittest

from soundborder.borders import breaker, fewest_drops, greatest_sound, is_sound, lots, lots_in
from soundborder.checker import lets_by
from soundborder.errors import BadDesign, NotMade
from soundborder.runs import run
from tests.samples import ALL, BREAKERS, ODD_VALUES, every_design, without

LOTS = (
    ("against",), ("along", "put"), ("args",), ("blank", "put"), ("calls", "keep", "put"), ("cast",),
    ("keep", "put", "share"), ("none",),
)
NO_PUT = (
    "along", "along checked", "args checked", "blank", "calls", "cast checked", "keep", "none checked", "share",
)
NO_KEEP = ("along checked", "args checked", "calls", "cast checked", "none checked", "put", "share")
KEEP_AND_PUT = ("along checked", "args checked", "cast checked", "keep", "none checked", "put")
ASKED = (lots_in, is_sound, breaker, greatest_sound, fewest_drops)


def union(*designs):
    return tuple(sorted(set(itertools.chain(*designs))))


def held(design):
    """The lots that a design holds whole, found another way."""
    return tuple(lot for lot in LOTS if set(lot) <= set(design))


class Examples(unittest.TestCase):
    def test_the_examples(self):
        self.assertIs(is_sound(("along", "keep", "share")), True)
        self.assertEqual(lots_in(("along", "put")), (("along", "put"),))
        self.assertEqual(
            breaker(("cast", "put")), ((), (("small", 0, 1), ("cast", 1, 0), ("field", 2, 1, "b"))),
        )
        self.assertEqual(fewest_drops(("along", "keep", "put", "share")), ("put",))
        self.assertEqual(len(greatest_sound(())), 3)
        self.assertEqual(greatest_sound(("blank",)), (NO_PUT,))
        self.assertEqual(lots()[3:5], (("blank", "put"), ("calls", "keep", "put")))
        with self.assertRaises(NotMade):
            greatest_sound(("none",))


class Lots(unittest.TestCase):
    def test_the_lots(self):
        self.assertEqual(lots(), LOTS)

    def test_each_lot_alone(self):
        for lot in LOTS:
            self.assertEqual(lots_in(lot), (lot,))
            self.assertIs(is_sound(lot), False)

    def test_each_lot_lacking_one_word(self):
        for lot in LOTS:
            for word in lot:
                lacking = tuple(other for other in lot if other != word)
                self.assertEqual(lots_in(lacking), ())
                self.assertIs(is_sound(lacking), True)

    def test_each_word_taken_from_all(self):
        for word in ALL:
            self.assertEqual(lots_in(without(word)), tuple(lot for lot in LOTS if word not in lot))

    def test_a_checked_word_is_not_the_unchecked_one(self):
        for word in ("along checked", "args checked", "cast checked", "none checked"):
            self.assertIs(is_sound((word, "put")), True)
        self.assertEqual(lots_in(("along", "along checked", "put")), (("along", "put"),))
        self.assertEqual(lots_in(("none", "none checked")), (("none",),))

    def test_the_empty_design_and_the_one_of_all_words(self):
        self.assertEqual((lots_in(()), is_sound(())), ((), True))
        self.assertEqual((lots_in(ALL), is_sound(ALL)), (LOTS, False))

    def test_every_design(self):
        for design in every_design():
            self.assertEqual(lots_in(design), held(design))
            self.assertIs(is_sound(design), held(design) == ())


class Breaker(unittest.TestCase):
    def test_each_lot_alone(self):
        for lot in LOTS:
            self.assertEqual(breaker(lot), BREAKERS[lot])

    def test_the_least_of_several_lots(self):
        self.assertEqual(breaker(ALL), BREAKERS[("against",)])
        for one, other in itertools.combinations(LOTS, 2):
            design = union(one, other)
            self.assertEqual(breaker(design), BREAKERS[held(design)[0]])

    def test_none_for_sound_designs(self):
        for design in ((), NO_PUT, NO_KEEP, KEEP_AND_PUT, ("calls", "keep"), ("keep", "put"), ("put", "share")):
            self.assertIsNone(breaker(design))

    def test_each_is_let_by_and_goes_wrong_by_every_design_of_which_it_is_told(self):
        for design in every_design():
            program = breaker(design)
            if program is None:
                self.assertEqual(held(design), ())
            else:
                self.assertIs(lets_by(design, program), True, design)
                self.assertEqual(run(design, program)[0], "wrong", design)

    def test_how_each_goes_wrong(self):
        for lot in LOTS:
            why = "none" if lot == ("none",) else "kind"
            self.assertEqual(run(lot, breaker(lot)), ("wrong", why, ()))

    def test_none_goes_wrong_by_a_sound_design(self):
        for design in (NO_PUT, NO_KEEP, KEEP_AND_PUT):
            for program in BREAKERS.values():
                if lets_by(design, program):
                    self.assertNotEqual(run(design, program)[0], "wrong")


class GreatestSound(unittest.TestCase):
    def test_of_the_empty_design(self):
        self.assertEqual(greatest_sound(()), (NO_PUT, NO_KEEP, KEEP_AND_PUT))

    def test_each_is_its_own_alone(self):
        for design in (NO_PUT, NO_KEEP, KEEP_AND_PUT):
            self.assertEqual(greatest_sound(design), (design,))

    def test_of_some_words(self):
        self.assertEqual(greatest_sound(("put",)), (NO_KEEP, KEEP_AND_PUT))
        self.assertEqual(greatest_sound(("keep",)), (NO_PUT, KEEP_AND_PUT))
        self.assertEqual(greatest_sound(("calls",)), (NO_PUT, NO_KEEP))
        self.assertEqual(greatest_sound(("keep", "put")), (KEEP_AND_PUT,))
        self.assertEqual(greatest_sound(("calls", "put")), (NO_KEEP,))
        self.assertEqual(greatest_sound(("along", "along checked")), (NO_PUT,))
        self.assertEqual(greatest_sound(("none checked",)), (NO_PUT, NO_KEEP, KEEP_AND_PUT))

    def test_they_are_sound_and_none_holds_another_sound_design(self):
        sound = [design for design in every_design() if held(design) == ()]
        for design in sound:
            above = [other for other in sound if set(design) < set(other)]
            self.assertEqual(design in greatest_sound(()), above == [])
            self.assertGreater(len(greatest_sound(design)), 0)
            for greatest in greatest_sound(design):
                self.assertLessEqual(set(design), set(greatest))

    def test_not_made_for_designs_that_are_not_sound(self):
        for design in LOTS + (ALL, without("put")):
            with self.assertRaises(NotMade):
                greatest_sound(design)


class FewestDrops(unittest.TestCase):
    def test_none_of_sound_designs(self):
        for design in ((), ("put",), NO_PUT, NO_KEEP, KEEP_AND_PUT):
            self.assertEqual(fewest_drops(design), ())

    def test_the_least_word_of_each_lot_alone(self):
        for lot in LOTS:
            self.assertEqual(fewest_drops(lot), lot[:1])

    def test_one_word_of_several_lots(self):
        self.assertEqual(fewest_drops(("along", "blank", "put")), ("put",))
        self.assertEqual(fewest_drops(("calls", "keep", "put", "share")), ("keep",))
        self.assertEqual(fewest_drops(("blank", "calls", "keep", "put")), ("put",))

    def test_several_words(self):
        self.assertEqual(fewest_drops(ALL), ("against", "args", "cast", "none", "put"))
        self.assertEqual(fewest_drops(without("put")), ("against", "args", "cast", "none"))
        self.assertEqual(fewest_drops(("against", "along", "put")), ("against", "along"))
        self.assertEqual(fewest_drops(("none", "put", "share")), ("none",))

    def test_some_designs_of_each_size(self):
        for design in every_design()[::29]:
            best = None
            for many in range(len(design) + 1):
                found = [
                    drops for drops in itertools.combinations(design, many)
                    if held(tuple(sorted(set(design) - set(drops)))) == ()
                ]
                if found and best is None:
                    best = min(found)
            self.assertEqual(fewest_drops(design), best)


class WrongArguments(unittest.TestCase):
    def test_what_is_no_design(self):
        for value in ODD_VALUES + (("put", "along"), ("put", "put"), ("along  checked",), ("put ",), (("put",),)):
            for asked in ASKED:
                with self.assertRaises(BadDesign):
                    asked(value)

    def test_a_bad_design_before_what_is_not_made(self):
        for value in (["none"], ("none", "cast"), ("none", "none")):
            with self.assertRaises(BadDesign):
                greatest_sound(value)

    def test_a_list_is_not_modified(self):
        value = ["put", "along"]
        for asked in ASKED:
            with self.assertRaises(BadDesign):
                asked(value)
        self.assertEqual(value, ["put", "along"])

    def test_answers_do_not_depend_on_earlier_ones(self):
        for asked in (lots_in, is_sound, breaker, fewest_drops):
            self.assertEqual(asked(ALL), asked(ALL))
        self.assertEqual((lots(), greatest_sound(())), (lots(), greatest_sound(())))


if __name__ == "__main__":
    unittest.main()
