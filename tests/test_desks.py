"""Point 18: a desk, its lines, its changes and how they are taken back."""

import unittest

from soundborder.desks import Desk
from soundborder.errors import BadDesign, BadProgram, InvalidText, NothingToUndo, NotNow, NotText
from tests.samples import ALL, BREAKERS, ODD_VALUES, plain

SHOWS = plain(("num", 0, 7), ("show", 0), ("num", 1, 0), ("show", 1), ("show", 0))
NOTHING_SHOWN = plain(("none", 0, "num"), ("show", 0))


class Asked(unittest.TestCase):
    def assert_refused(self, error, asked, *arguments):
        with self.assertRaises(error) as caught:
            asked(*arguments)
        return caught.exception

    def assert_answers(self, desk, fault, run, shown, sound):
        """What the desk answers to the four questions; None where it cannot be asked at present."""
        for line, answer in (("fault", fault), ("run", run), ("shown", shown), ("sound", sound)):
            if answer is None:
                self.assert_refused(NotNow, desk.run, line)
            else:
                self.assertEqual(desk.run(line), answer, line)


class Examples(Asked):
    def test_the_examples(self):
        desk = Desk((), ((), (("none", 0, "num"), ("show", 0))))
        self.assertEqual(desk.run("fault"), "0.0")
        self.assertIsNone(desk.run("permit none checked"))
        self.assertEqual(desk.run("run"), "stops none")
        self.assertIsNone(desk.run("permit none"))
        self.assertEqual(desk.run("run"), "wrong none")
        self.assertEqual(desk.run("sound"), "no")
        self.assertIsNone(desk.undo())
        self.assertEqual(desk.design, ("none checked",))
        self.assert_refused(NotNow, desk.run, "forbid put")


class Questions(Asked):
    def test_a_program_that_ends(self):
        self.assert_answers(Desk((), SHOWS), "none", "ends", "7 0 7", "yes")

    def test_a_program_that_shows_nothing(self):
        self.assert_answers(Desk((), plain()), "none", "ends", "", "yes")

    def test_a_program_that_is_not_let_by(self):
        self.assert_answers(Desk((), NOTHING_SHOWN), "0.0", None, None, "yes")
        self.assert_answers(Desk(("cast",), NOTHING_SHOWN), "0.0", None, None, "no")

    def test_places(self):
        many = plain(*[("num", number, 1) for number in range(12)], ("show", 20))
        self.assertEqual(Desk((), many).run("fault"), "0.12")
        self.assertEqual(Desk((), ((("num", "big", (), 0),), ())).run("fault"), "0")
        self.assertEqual(Desk((), ((("num", "num", (), 0), ("num", "num", (), 5)), ())).run("fault"), "1")
        function = ("num", "num", (("small", 1, 1), ("cell", 2, 1), ("test", 2, (("show", 0), ("show", 2)))), 0)
        self.assertEqual(Desk((), ((function,), ())).run("fault"), "0.2.1")
        body = (("small", 1, 1), ("cell", 2, 1), ("test", 2, (("test", 2, (("show", 1),)),)))
        self.assertEqual(Desk((), ((("num", "num", (), 0),), body)).run("fault"), "1.2.0.0")

    def test_why_a_run_stops_or_goes_wrong(self):
        for lot, program in BREAKERS.items():
            why = "none" if lot == ("none",) else "kind"
            self.assert_answers(Desk(lot, program), "none", "wrong " + why, "", "no")
        self.assertEqual(Desk(("along checked", "put"), BREAKERS[("along", "put")]).run("run"), "stops put")
        self.assertEqual(Desk(("args checked",), BREAKERS[("args",)]).run("run"), "stops args")
        self.assertEqual(Desk(("cast checked",), BREAKERS[("cast",)]).run("run"), "stops cast")
        self.assertEqual(Desk(("blank",), plain(("blank", 0), ("get", 1, 0, "num"))).run("run"), "stops empty")

    def test_numbers_shown_until_a_run_stops(self):
        desk = Desk(("none",), plain(("num", 0, 7), ("show", 0), ("none", 1, "num"), ("show", 1), ("show", 0)))
        self.assert_answers(desk, "none", "wrong none", "7", "no")

    def test_questions_change_nothing(self):
        desk = Desk(("none",), NOTHING_SHOWN)
        for _ in range(2):
            self.assert_answers(desk, "none", "wrong none", "", "no")
        self.assertEqual(desk.design, ("none",))
        self.assert_refused(NothingToUndo, desk.undo)


class Changes(Asked):
    def test_each_word_in_and_out(self):
        for word in ALL:
            desk = Desk((), SHOWS)
            self.assertIsNone(desk.run("permit " + word))
            self.assertEqual(desk.design, (word,))
            self.assert_refused(NotNow, desk.run, "permit " + word)
            self.assertIsNone(desk.run("forbid " + word))
            self.assertEqual(desk.design, ())
            self.assert_refused(NotNow, desk.run, "forbid " + word)

    def test_all_words_in_and_out_one_after_another(self):
        desk = Desk((), SHOWS)
        there = []
        for word in ALL[::-1] + ALL[::-1]:
            if word in there:
                desk.run("forbid " + word)
                there.remove(word)
            else:
                desk.run("permit " + word)
                there.append(word)
            self.assertEqual(desk.design, tuple(sorted(there)))
        for many in range(27, -1, -1):
            desk.undo()
            self.assertEqual(len(desk.design), min(many, 28 - many))
        self.assert_refused(NothingToUndo, desk.undo)

    def test_a_word_and_its_checked_word(self):
        desk = Desk(("none",), NOTHING_SHOWN)
        desk.run("permit none checked")
        self.assertEqual(desk.design, ("none", "none checked"))
        self.assertEqual((desk.run("run"), desk.run("sound")), ("wrong none", "no"))
        desk.run("forbid none")
        self.assertEqual(desk.design, ("none checked",))
        self.assertEqual((desk.run("run"), desk.run("sound")), ("stops none", "yes"))
        self.assert_refused(NotNow, desk.run, "forbid none")

    def test_answers_follow_the_design(self):
        desk = Desk((), BREAKERS[("cast",)])
        self.assert_answers(desk, "0.1", None, None, "yes")
        desk.run("permit cast")
        self.assert_answers(desk, "none", "wrong kind", "", "no")
        desk.run("permit cast checked")
        desk.run("forbid cast")
        self.assert_answers(desk, "none", "stops cast", "", "yes")
        desk.undo()
        self.assert_answers(desk, "none", "wrong kind", "", "no")
        desk.undo()
        desk.undo()
        self.assert_answers(desk, "0.1", None, None, "yes")

    def test_undo_takes_the_last_change_back(self):
        desk = Desk(("keep", "put"), SHOWS)
        desk.run("permit along")
        desk.run("forbid keep")
        self.assertEqual(desk.design, ("along", "put"))
        self.assertIsNone(desk.undo())
        self.assertEqual(desk.design, ("along", "keep", "put"))
        desk.run("forbid put")
        self.assertEqual(desk.design, ("along", "keep"))
        desk.undo()
        desk.undo()
        self.assertEqual(desk.design, ("keep", "put"))
        self.assert_refused(NothingToUndo, desk.undo)
        self.assertEqual(desk.design, ("keep", "put"))
        desk.run("permit along")
        self.assertEqual(desk.design, ("along", "keep", "put"))

    def test_a_change_that_is_refused_is_none(self):
        desk = Desk(("put",), SHOWS)
        desk.run("permit share")
        for line in ("permit put", "permit share", "forbid keep", "forbid along checked"):
            self.assert_refused(NotNow, desk.run, line)
        for line in ("permit", "permit puts", "undo", ""):
            self.assert_refused(InvalidText, desk.run, line)
        self.assert_refused(NotText, desk.run, None)
        self.assertEqual(desk.design, ("put", "share"))
        desk.undo()
        self.assertEqual(desk.design, ("put",))
        self.assert_refused(NothingToUndo, desk.undo)

    def test_desks_do_not_share_what_they_keep(self):
        design = ("put",)
        one, other = Desk(design, SHOWS), Desk(design, SHOWS)
        one.run("permit share")
        self.assertEqual((one.design, other.design, design), (("put", "share"), ("put",), ("put",)))
        self.assert_refused(NothingToUndo, other.undo)


class WrongLines(Asked):
    def test_what_is_no_string(self):
        desk = Desk((), SHOWS)
        for value in ODD_VALUES + (["fault"], ("fault",)):
            if not isinstance(value, str):
                self.assert_refused(NotText, desk.run, value)

    def test_any_other_line(self):
        lines = [value for value in ODD_VALUES if isinstance(value, str)]
        lines += [
            " ", "\n", "fault ", " fault", "fault\n", "Fault", "faults", "fault 0", "run run", "run\nrun", "shown 0",
            "sounds", "undo", "design", "permit", "permit ", "forbid", "permit  put", " permit put", "permit put ",
            "permit\tput", "permit put\n", "permit Put", "Permit put", "permitput", "permit put share", "put",
            "permit put checked", "permit along  checked", "permit checked", "permit any", "forbid any", "forbid ",
            "allow put", "forbid put keep", "permit none\n", "permit alongchecked",
        ]
        for program in (SHOWS, NOTHING_SHOWN):
            desk = Desk(("put",), program)
            for line in lines:
                self.assertEqual(self.assert_refused(InvalidText, desk.run, line).line, 1, line)
            self.assertEqual(desk.design, ("put",))

    def test_what_cannot_be_answered_now_changes_nothing(self):
        desk = Desk((), NOTHING_SHOWN)
        for line in ("run", "shown"):
            self.assert_refused(NotNow, desk.run, line)
        self.assertEqual(desk.design, ())
        self.assert_refused(NothingToUndo, desk.undo)


class WrongDesks(Asked):
    def test_no_design(self):
        for value in ODD_VALUES + (("put", "along"), ("put", "put")):
            self.assert_refused(BadDesign, Desk, value, SHOWS)

    def test_no_program(self):
        for value in ODD_VALUES + (Desk((), SHOWS), plain(("show", 41))):
            self.assertIsNone(self.assert_refused(BadProgram, Desk, (), value).part)
        good = ("num", "num", (), 0)
        self.assertEqual(self.assert_refused(BadProgram, Desk, (), ((good, good[:2], 0), ())).part, 1)

    def test_the_design_is_looked_at_first(self):
        for value in ODD_VALUES:
            self.assert_refused(BadDesign, Desk, value, value)

    def test_a_desk_is_no_design_and_no_program(self):
        desk = Desk((), SHOWS)
        self.assert_refused(BadDesign, Desk, desk, desk)
        self.assert_refused(NotText, desk.run, desk)


class Interface(unittest.TestCase):
    def test_what_stands_in_the_class_itself(self):
        self.assertEqual(Desk.__module__, "soundborder.desks")
        for name in ("run", "undo", "design"):
            self.assertIn(name, vars(Desk))
        self.assertIsInstance(vars(Desk)["design"], property)


if __name__ == "__main__":
    unittest.main()
