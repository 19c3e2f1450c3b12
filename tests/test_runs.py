"""Points 9 to 11: runs, how they end, and the numbers that they show."""

import unittest

from soundborder.checker import lets_by
from soundborder.errors import NotMade
from soundborder.runs import run
from tests.samples import BREAKERS, SETTER, plain

ENDS = ("ends", "")
EMPTY = ("stops", "empty")
KIND = ("wrong", "kind")

# By these, and a blank cell, a name can be given any type, whatever its value.
FREE = ("blank", "none", "put", "share")


def seen_as(name, value, kind):
    """Statements by which the name is of that type and has the value of the other name; they make name + 10, too."""
    return ("blank", name + 10), ("put", name + 10, value), ("get", name, name + 10, kind)


class Runs(unittest.TestCase):
    def assert_run(self, design, program, end, *shown):
        self.assertEqual(run(design, program), end + (shown,), (design, program))


class Examples(Runs):
    def test_the_examples(self):
        program = ((SETTER,), BREAKERS[("along", "put")][1])
        self.assertEqual(run(("along", "put"), program), ("wrong", "kind", ()))
        self.assertEqual(run(("along checked", "put"), program), ("stops", "put", ()))
        self.assertEqual(run(("blank",), plain(("blank", 0), ("get", 1, 0, "num"))), ("stops", "empty", ()))
        with self.assertRaises(NotMade):
            run((), program)

    def test_what_is_not_let_by_is_not_run(self):
        shows_before = plain(("num", 0, 1), ("show", 0), ("num", 0, 1))
        for program in (plain(("show", 0)), ((("num", "num", (), 1),), ()), shows_before):
            with self.assertRaises(NotMade):
                run((), program)

    def test_what_breaks_a_lot_goes_wrong(self):
        for lot, program in BREAKERS.items():
            self.assert_run(lot, program, ("wrong", "none") if lot == ("none",) else KIND)

    def test_checks_stop_what_would_go_wrong(self):
        for lot, why in ((("along", "put"), "put"), (("args",), "args"), (("cast",), "cast"), (("none",), "none")):
            design = (lot[0] + " checked",) + lot[1:]
            self.assert_run(design, BREAKERS[lot], ("stops", why))

    def test_a_word_beside_its_checked_word_is_not_checked(self):
        for lot in (("along", "put"), ("args",), ("cast",), ("none",)):
            design = (lot[0], lot[0] + " checked") + lot[1:]
            self.assert_run(design, BREAKERS[lot], ("wrong", "none") if lot == ("none",) else KIND)


class Ends(Runs):
    def test_nothing_to_do(self):
        self.assert_run((), plain(), ENDS)

    def test_shown_in_order(self):
        program = plain(("num", 0, 99), ("num", 1, 0), ("show", 0), ("show", 1), ("show", 0))
        self.assert_run((), program, ENDS, 99, 0, 99)

    def test_fields(self):
        record = ("big", 0, 7, 8), ("small", 1, 9)
        asks = ("field", 2, 0, "a"), ("field", 3, 0, "b"), ("field", 4, 1, "a"), ("show", 2), ("show", 3), ("show", 4)
        self.assert_run((), plain(*record, *asks), ENDS, 7, 8, 9)

    def test_name_is_the_same_value(self):
        program = plain(("big", 0, 7, 8), ("name", 1, 0, "small"), ("field", 2, 1, "a"), ("show", 2))
        self.assert_run((), program, ENDS, 7)

    def test_a_cell_has_its_content(self):
        self.assert_run((), plain(("num", 0, 7), ("cell", 1, 0), ("get", 2, 1, "num"), ("show", 2)), ENDS, 7)

    def test_put(self):
        program = plain(
            ("num", 0, 7), ("num", 1, 8), ("cell", 2, 0), ("get", 3, 2, "num"), ("put", 2, 1), ("get", 4, 2, "num"),
            ("show", 3), ("show", 4), ("show", 0),
        )
        self.assert_run(("put",), program, ENDS, 7, 8, 7)

    def test_put_by_another_name_of_the_cell(self):
        program = plain(
            ("num", 0, 7), ("num", 1, 8), ("cell", 2, 0), ("cell", 3, 0), ("name", 4, 2, ("cell", "num")),
            ("put", 4, 1), ("get", 5, 2, "num"), ("get", 6, 3, "num"), ("show", 5), ("show", 6),
        )
        self.assert_run(("put", "share"), program, ENDS, 8, 7)

    def test_put_into_a_blank_cell(self):
        program = plain(("blank", 0), ("num", 1, 7), ("put", 0, 1), ("get", 2, 0, "num"), ("show", 2))
        self.assert_run(("blank", "put"), program, ENDS, 7)

    def test_a_cell_that_holds_itself(self):
        one, two = ("cell", "num"), ("cell", ("cell", "num"))
        program = plain(("blank", 0), ("put", 0, 0), ("get", 1, 0, two), ("get", 2, 1, one), ("test", 0, ()))
        self.assert_run(("blank", "put", "share"), program, ENDS)

    def test_call(self):
        function = ("num", "num", (("show", 0), ("num", 1, 5), ("show", 1)), 0)
        program = ((function,), (("num", 0, 7), ("call", 1, 0, 0), ("show", 1), ("call", 2, 0, 1)))
        self.assert_run((), program, ENDS, 7, 5, 7, 7, 5)

    def test_a_call_tells_what_the_function_tells(self):
        function = ("num", "num", (("num", 1, 5), ("num", 2, 6)), 1)
        self.assert_run((), ((function,), (("num", 0, 7), ("call", 1, 0, 0), ("show", 1))), ENDS, 5)

    def test_a_call_of_an_earlier_function_within_a_function(self):
        inner = ("num", "num", (("show", 0), ("num", 1, 2)), 1)
        outer = ("num", "num", (("call", 1, 0, 0), ("show", 1)), 1)
        self.assert_run((), ((inner, outer), (("num", 0, 7), ("call", 1, 1, 0), ("show", 1))), ENDS, 7, 2, 2)

    def test_use(self):
        one = ("num", "num", (("show", 0), ("num", 1, 5)), 1)
        two = ("num", "num", (("num", 1, 6),), 1)
        uses = ("use", 3, 0, 2), ("use", 4, 1, 2), ("show", 3), ("show", 4)
        body = (("fun", 0, 0), ("fun", 1, 1), ("num", 2, 7)) + uses
        self.assert_run((), ((one, two), body), ENDS, 7, 5, 6)

    def test_use_of_a_function_that_is_passed(self):
        takes = (("fun", "num", "num"), "num", (("num", 1, 7), ("use", 2, 0, 1)), 2)
        told = ("num", "num", (("show", 0), ("num", 1, 5)), 1)
        self.assert_run((), ((told, takes), (("fun", 0, 0), ("call", 1, 1, 0), ("show", 1))), ENDS, 7, 5)

    def test_a_function_changes_a_cell_of_its_caller(self):
        behind = ("get", 3, 1, "small"), ("field", 4, 3, "a"), ("show", 4)
        body = (("small", 0, 7), ("cell", 1, 0), ("call", 2, 0, 1)) + behind
        self.assert_run(("put",), ((SETTER,), body), ENDS, 1)

    def test_cast_of_a_record_with_b(self):
        program = plain(("big", 0, 7, 8), ("name", 1, 0, "small"), ("cast", 2, 1), ("field", 3, 2, "b"), ("show", 3))
        for design in (("cast",), ("cast checked",)):
            self.assert_run(design, program, ENDS, 8)

    def test_cast_that_nothing_is_asked_of(self):
        program = plain(("small", 0, 7), ("cast", 1, 0), ("field", 2, 1, "a"), ("show", 2))
        self.assert_run(("cast",), program, ENDS, 7)
        self.assert_run(("cast checked",), program, ("stops", "cast"))


class Tests(Runs):
    def test_a_record_with_b(self):
        program = plain(("big", 0, 1, 2), ("num", 2, 7), ("cell", 1, 0), ("test", 1, (("show", 2),)), ("show", 2))
        self.assert_run((), program, ENDS, 7, 7)

    def test_a_record_with_b_that_is_named_small(self):
        test = ("test", 1, (("get", 4, 1, "big"), ("field", 5, 4, "b"), ("show", 5)))
        program = plain(("big", 0, 1, 2), ("name", 3, 0, "small"), ("cell", 1, 3), test)
        self.assert_run(("keep",), program, ENDS, 2)

    def test_a_record_without_b(self):
        program = plain(("small", 0, 1), ("num", 2, 7), ("cell", 1, 0), ("test", 1, (("show", 2),)), ("show", 2))
        self.assert_run((), program, ENDS, 7)

    def test_an_empty_cell(self):
        program = plain(("blank", 0), ("num", 1, 7), ("test", 0, (("show", 1),)), ("show", 1))
        self.assert_run(("blank",), program, ENDS, 7)

    def test_other_contents_of_a_blank_cell(self):
        show = ("num", 9, 7), ("test", 1, (("show", 9),))
        cases = (
            (("num", 0, 1), ()), (("small", 0, 1), ()), (("big", 0, 1, 2), (7,)), (("none", 0, "big"), ()),
            (("blank", 0), ()), (("fun", 0, 0), ()),
        )
        for made, shown in cases:
            program = ((SETTER,), (made, ("blank", 1), ("put", 1, 0)) + show)
            self.assert_run(FREE, program, ENDS, *shown)

    def test_the_content_at_that_time(self):
        before = ("big", 0, 1, 2), ("small", 1, 1), ("name", 2, 0, "small"), ("cell", 3, 2), ("num", 4, 7)
        test = ("test", 3, (("show", 4),))
        self.assert_run(("put",), plain(*before, ("put", 3, 1), test, ("put", 3, 2), test), ENDS, 7)
        inner = ("test", 3, (("put", 3, 1), test, ("show", 4)))
        self.assert_run(("put",), plain(*before, inner, inner), ENDS, 7)

    def test_names_of_a_test_are_made_again_behind_it(self):
        before = ("big", 0, 1, 2), ("cell", 1, 0)
        inner = ("test", 1, (("num", 2, 7), ("show", 2)))
        self.assert_run((), plain(*before, inner, ("num", 2, 8), ("show", 2)), ENDS, 7, 8)
        self.assert_run((), plain(*before, inner, ("small", 2, 9), ("field", 3, 2, "a"), ("show", 3)), ENDS, 7, 9)

    def test_tests_within_one_another(self):
        before = ("big", 0, 1, 2), ("cell", 1, 0), ("small", 2, 1), ("cell", 3, 2), ("num", 4, 7)
        both = ("test", 1, (("test", 1, (("show", 4),)), ("test", 3, (("show", 4),)), ("show", 4)))
        self.assert_run((), plain(*before, both), ENDS, 7, 7)


class Stops(Runs):
    def test_empty(self):
        blank = ("num", 0, 7), ("show", 0), ("blank", 1)
        self.assert_run(("blank",), plain(*blank, ("get", 2, 1, "num"), ("show", 2)), EMPTY, 7)
        filled = plain(*blank, ("none", 2, "num"), ("put", 1, 2), ("get", 3, 1, "num"))
        self.assert_run(("blank", "none", "put"), filled, ENDS, 7)

    def test_empty_within_a_test_and_within_a_function(self):
        inner = ("test", 1, (("show", 3), ("get", 4, 2, "num"), ("show", 3)))
        body = ("big", 0, 1, 2), ("cell", 1, 0), ("blank", 2), ("num", 3, 7), inner, ("show", 3)
        self.assert_run(("blank",), plain(*body), EMPTY, 7)
        function = ("num", "num", (("blank", 1), ("show", 0), ("get", 2, 1, "num"), ("show", 0)), 2)
        for statement in (("call", 2, 0, 0), ("use", 2, 1, 0)):
            program = ((function,), (("num", 0, 7), ("fun", 1, 0), statement, ("show", 0)))
            self.assert_run(("blank",), program, EMPTY, 7)

    def test_what_is_used_is_nothing(self):
        used = (
            (("cell", "num"), ("get", 2, 0, "num")), (("cell", "num"), ("put", 0, 1)),
            (("cell", "big"), ("test", 0, ())), ("small", ("field", 2, 0, "a")), ("big", ("field", 2, 0, "b")),
            (("fun", "num", "num"), ("use", 2, 0, 1)), ("num", ("show", 0)),
        )
        for kind, statement in used:
            program = plain(("num", 1, 7), ("show", 1), ("none", 0, kind), statement, ("show", 1))
            for design, how in (
                (("none", "put"), "wrong"), (("none checked", "put"), "stops"),
                (("none", "none checked", "put"), "wrong"),
                (("against", "along checked", "args checked", "cast checked", "none", "put"), "wrong"),
                (("against", "along checked", "args checked", "cast checked", "none checked", "put"), "stops"),
            ):
                self.assert_run(design, program, (how, "none"), 7)

    def test_nothing_may_be_handed_on(self):
        takes = ("big", "num", (("num", 1, 5),), 1)
        body = (
            ("none", 0, "big"), ("name", 1, 0, "small"), ("cell", 2, 1), ("get", 3, 2, "small"), ("put", 2, 0),
            ("cast", 4, 3), ("call", 5, 0, 0), ("fun", 6, 0), ("use", 7, 6, 4), ("test", 2, (("show", 5),)),
            ("show", 7),
        )
        for words in (("cast", "none"), ("cast checked", "none checked")):
            for more in ((), ("along checked", "args checked")):
                self.assert_run(tuple(sorted(words + more)) + ("put",), ((takes,), body), ENDS, 5)

    def test_nothing_as_an_argument_and_as_what_is_told(self):
        function = ("num", "big", (("none", 1, "big"),), 1)
        body = ("num", 0, 7), ("call", 1, 0, 0), ("show", 0), ("field", 2, 1, "a")
        self.assert_run(("none",), ((function,), body), ("wrong", "none"), 7)
        self.assert_run(("none checked",), ((function,), body), ("stops", "none"), 7)

    def test_put_at_what_the_cell_is_born_at(self):
        # The cell is born at the type that its content's name has, whatever the content is.
        before = ("big", 0, 1, 2), ("name", 1, 0, "small"), ("small", 2, 9)
        goes_on = ("cell", 3, 1), ("call", 4, 0, 3), ("get", 5, 3, "small"), ("field", 6, 5, "a"), ("show", 6)
        stops = (("cell", 3, 0),) + goes_on[1:]
        design = ("along checked", "put")
        self.assert_run(design, ((SETTER,), before + goes_on), ENDS, 1)
        self.assert_run(design, ((SETTER,), before + stops), ("stops", "put"))
        self.assert_run(("along", "put"), ((SETTER,), before + stops), ENDS, 1)

    def test_put_of_what_fits(self):
        puts = ("big", 1, 3, 4), ("name", 2, 1, "small"), ("put", 0, 2), ("num", 3, 0)
        setter = (("cell", "small"), "num", puts, 3)
        behind = ("get", 3, 1, "big"), ("field", 4, 3, "b"), ("show", 4)
        body = (("big", 0, 1, 2), ("cell", 1, 0), ("call", 2, 0, 1)) + behind
        self.assert_run(("along checked", "put"), ((setter,), body), ENDS, 4)

    def test_put_into_a_blank_cell_is_not_stopped(self):
        setter = (("cell", "small"), "num", SETTER[2] + (("show", 2),), 2)
        body = ("blank", 0), ("call", 1, 0, 0), ("get", 2, 0, "small"), ("field", 3, 2, "a"), ("show", 3)
        self.assert_run(("along checked", "blank", "put"), ((setter,), body), ENDS, 0, 1)

    def test_numbers_shown_before_a_put_is_stopped(self):
        puts = ("num", 1, 5), ("show", 1), ("small", 2, 1), ("put", 0, 2), ("show", 1)
        setter = (("cell", "small"), "num", puts, 1)
        body = ("big", 0, 1, 2), ("cell", 1, 0), ("call", 2, 0, 1), ("show", 2)
        self.assert_run(("along checked", "put"), ((setter,), body), ("stops", "put"), 5)

    def test_put_of_cells(self):
        # The outer cell is born at a cell of "big", and seen as one of "small".
        before = (
            ("big", 0, 1, 2), ("cell", 1, 0), ("cell", 2, 1), ("name", 3, 2, ("cell", ("cell", "small"))),
            ("small", 4, 7), ("num", 6, 8), ("show", 6),
        )
        behind = ("put", 3, 5), ("show", 6)
        checked = ("along checked", "blank", "put", "share")
        of_small = plain(*before, ("cell", 5, 4), *behind)
        self.assert_run(checked, of_small, ("stops", "put"), 8)
        self.assert_run(("along", "put", "share"), of_small, ENDS, 8, 8)
        self.assert_run(checked, plain(*before, ("cell", 5, 0), *behind), ENDS, 8, 8)
        self.assert_run(checked, plain(*before, ("blank", 5), *behind), ENDS, 8, 8)

    def test_put_of_functions(self):
        takes = tuple((kind, "num", (("num", 1, 1),), 1) for kind in ("small", "big"))
        puts = ("fun", 1, 1), ("put", 0, 1), ("num", 2, 6), ("show", 2)
        setter = (("cell", ("fun", "big", "num")), "num", puts, 2)
        for number, end, shown in ((0, ("stops", "put"), ()), (1, ENDS, (6,))):
            body = ("fun", 0, number), ("cell", 1, 0), ("call", 2, 2, 1)
            self.assert_run(("along checked", "put"), (takes + (setter,), body), end, *shown)

    def test_args(self):
        takes = ("big", "num", (("field", 1, 0, "a"), ("show", 1)), 1)
        before = ("fun", 0, 0), ("name", 1, 0, ("fun", "small", "num")), ("num", 4, 8), ("show", 4)
        use = ("use", 3, 1, 2), ("show", 3)
        small = ((takes,), before + (("small", 2, 7),) + use)
        self.assert_run(("args",), small, ENDS, 8, 7, 7)
        self.assert_run(("args checked",), small, ("stops", "args"), 8)
        big = ((takes,), before + (("big", 2, 5, 6),) + use)
        named = ((takes,), before + (("big", 5, 5, 6), ("name", 2, 5, "small")) + use)
        for design in (("args",), ("args checked",)):
            self.assert_run(design, big, ENDS, 8, 5, 5)
            self.assert_run(design, named, ENDS, 8, 5, 5)

    def test_args_that_are_cells(self):
        takes = (("cell", "big"), "num", (("num", 1, 5), ("show", 1)), 1)
        before = ("fun", 0, 0), ("name", 1, 0, ("fun", ("cell", "small"), "num"))
        design = ("along", "args checked", "blank")
        for cell, end, shown in (
            ((("small", 2, 7), ("cell", 3, 2)), ("stops", "args"), ()),
            ((("big", 2, 7, 8), ("cell", 3, 2)), ENDS, (5,)), ((("blank", 3),), ENDS, (5,)),
        ):
            self.assert_run(design, ((takes,), before + cell + (("use", 4, 1, 3),)), end, *shown)

    def test_calls_are_not_checked(self):
        takes = ("small", "num", (("num", 1, 5), ("show", 1)), 1)
        program = ((takes,), (("num", 0, 7),) + seen_as(1, 0, "small") + (("call", 2, 0, 1),))
        self.assert_run(("args checked", "blank", "put"), program, ENDS, 5)

    def test_cast(self):
        program = plain(("num", 0, 7), ("show", 0), ("small", 1, 1), ("cast", 2, 1), ("show", 0))
        self.assert_run(("cast checked",), program, ("stops", "cast"), 7)
        self.assert_run(("cast",), program, ENDS, 7, 7)
        self.assert_run(("cast", "cast checked"), program, ENDS, 7, 7)


class GoesWrong(Runs):
    def test_what_is_used_is_of_another_kind(self):
        made = {
            "num": (("num", 0, 1),), "record": (("big", 0, 1, 2),), "cell": (("big", 2, 1, 2), ("cell", 0, 2)),
            "fun": (("fun", 0, 0),),
        }
        used = (
            ("cell", ("cell", "num"), ("get", 3, 1, "num")), ("cell", ("cell", "num"), ("put", 1, 9)),
            ("cell", ("cell", "small"), ("test", 1, ())), ("record", "small", ("field", 3, 1, "a")),
            ("record", "big", ("field", 3, 1, "b")), ("fun", ("fun", "num", "num"), ("use", 3, 1, 9)),
            ("num", "num", ("show", 1)),
        )
        functions = (("num", "num", (), 0),)
        for kind, seen, statement in used:
            for other, before in made.items():
                body = (("num", 9, 7), ("show", 9)) + before + seen_as(1, 0, seen) + (statement,)
                found = run(FREE, (functions, body))
                if other == kind:
                    self.assertEqual(found[:2], ENDS, (kind, other))
                else:
                    self.assertEqual(found, KIND + ((7,),), (kind, other))

    def test_other_kinds_go_wrong_though_checked(self):
        design = ("along checked", "args checked", "blank", "none checked", "put", "share")
        for seen, statement in (
            (("cell", "num"), ("put", 1, 0)), (("fun", "num", "num"), ("use", 3, 1, 0)),
            (("cell", "num"), ("get", 3, 1, "num")),
        ):
            self.assert_run(design, plain(("num", 0, 1), *seen_as(1, 0, seen), statement), KIND)

    def test_a_record_that_has_not_the_field(self):
        body = ("small", 0, 7), ("cast", 1, 0), ("field", 2, 1, "a"), ("show", 2), ("field", 3, 1, "b"), ("show", 2)
        self.assert_run(("cast",), plain(*body), KIND, 7)

    def test_numbers_shown_until_then(self):
        casts = ("field", 1, 0, "a"), ("show", 1), ("cast", 2, 0), ("field", 3, 2, "b"), ("show", 1)
        function = ("small", "num", casts, 3)
        for statement in (("call", 3, 0, 0), ("use", 3, 1, 0)):
            body = ("small", 0, 7), ("fun", 1, 0), ("num", 2, 8), ("show", 2), statement, ("show", 2)
            self.assert_run(("cast",), ((function,), body), KIND, 8, 7)
        inner = ("test", 1, (("show", 2), ("show", 3)))
        body = ("big", 0, 1, 2), ("cell", 1, 0), ("num", 2, 8), ("none", 3, "num"), inner, ("show", 2)
        self.assert_run(("none",), plain(*body), ("wrong", "none"), 8)


class Fits(Runs):
    """What fits a type, as a use looks at it: the function's argument is seen as "num" and is something else."""

    def found(self, wanted, design, *before):
        function = (wanted, "num", (("num", 1, 5),), 1)
        body = before + seen_as(1, 0, "num") + (("fun", 2, 0),) + seen_as(3, 2, ("fun", "num", "num"))
        program = ((function,), body + (("use", 4, 3, 1), ("show", 4)))
        return run(design, program)

    def test_each_kind(self):
        made = {
            "num": (("num", 0, 1),), "small": (("small", 0, 1),), "big": (("big", 0, 1, 2),),
            "named small": (("big", 5, 1, 2), ("name", 0, 5, "small")), "nothing": (("none", 0, "num"),),
            "cell of small": (("small", 5, 1), ("cell", 0, 5)), "cell of big": (("big", 5, 1, 2), ("cell", 0, 5)),
            "cell of named": (("big", 6, 1, 2), ("name", 5, 6, "small"), ("cell", 0, 5)), "blank": (("blank", 0),),
            "fun": (("fun", 0, 0),),
        }
        fitting = {
            "num": ("num",), "small": ("small", "big", "named small"), "big": ("big", "named small"),
            ("cell", "num"): ("blank",), ("cell", "small"): ("cell of small", "cell of named", "blank"),
            ("cell", "big"): ("cell of big", "blank"), ("fun", "num", "num"): (),
        }
        design = ("args checked", "blank", "none", "put", "share")
        for wanted, names in fitting.items():
            for name, before in made.items():
                end = ENDS + ((5,),) if name in names + ("nothing",) else ("stops", "args", ())
                self.assertEqual(self.found(wanted, design, *before), end, (wanted, name))

    def test_cells_by_the_design(self):
        big, small = (("big", 5, 1, 2), ("cell", 0, 5)), (("small", 5, 1), ("cell", 0, 5))
        for words, fits_small, fits_big in (((), False, False), (("along",), True, False), (("against",), False, True)):
            design = words + ("args checked", "blank", "none", "put", "share")
            self.assertEqual(self.found(("cell", "small"), design, *big)[0] == "ends", fits_small)
            self.assertEqual(self.found(("cell", "big"), design, *small)[0] == "ends", fits_big)

    def test_functions(self):
        takes = [(kind, "num", (("num", 1, 5),), 1) for kind in ("small", "big")]
        setter = (("fun", "big", "num"), "num", (("num", 1, 6),), 1)
        for number in (0, 1):
            body = ("num", 6, 1), ("fun", 0, number), ("fun", 1, 2), ("use", 2, 1, 0), ("show", 2)
            self.assert_run(("args checked",), (tuple(takes) + (setter,), body), ENDS, 6)
        setter = (("fun", "small", "num"),) + setter[1:]
        body = ("fun", 0, 1), ("fun", 1, 2), ("use", 2, 1, 0), ("show", 2)
        self.assertIs(lets_by((), (tuple(takes) + (setter,), body)), False)
        # By "args", functions of arguments either way lie within one another.
        self.assert_run(("args checked",), (tuple(takes) + (setter,), body), ENDS, 6)


# The function that each cell of this type has is used with that cell again.
AGAIN = ("cell", ("fun", ("cell", "num"), "num"))
USES_ITSELF = (
    ("get", 2, 0, AGAIN[1]), ("blank", 3), ("put", 3, 0), ("get", 4, 3, ("cell", "num")), ("use", 5, 2, 4),
)
SHOWS = (("num", 1, 7), ("show", 1))
DEEP = ("stops", "deep")
DESIGN = ("blank", "put", "share")


class Deep(Runs):
    def start(self, number):
        """A body that calls function 0 with a cell that has the function of that number."""
        return ("blank", 0), ("fun", 1, number), ("put", 0, 1), ("call", 2, 0, 0), ("show", 2)

    def test_the_thirty_first_is_not_begun(self):
        function = (AGAIN, "num", SHOWS + USES_ITSELF, 5)
        self.assert_run(DESIGN, ((function,), self.start(0)), DEEP, *[7] * 30)

    def test_uses_count_as_calls_do(self):
        function = (AGAIN, "num", SHOWS + USES_ITSELF, 5)
        body = ("blank", 0), ("fun", 1, 0), ("put", 0, 1), ("get", 2, 0, ("fun", ("cell", "num"), "num"))
        again = ("blank", 3), ("put", 3, 0), ("get", 4, 3, ("cell", "num")), ("use", 5, 2, 4)
        self.assert_run(DESIGN, ((function,), body + again), DEEP, *[7] * 30)

    def test_a_call_within_each_use(self):
        function = (AGAIN, "num", SHOWS + USES_ITSELF, 5)
        calls = (AGAIN, "num", (("num", 1, 8), ("show", 1), ("call", 2, 0, 0)), 2)
        body = ("blank", 0), ("fun", 1, 1), ("put", 0, 1), ("call", 2, 0, 0)
        self.assert_run(DESIGN, ((function, calls), body), DEEP, *[7, 8] * 15)
        body = body[:3] + (("call", 2, 1, 0),)
        self.assert_run(DESIGN, ((function, calls), body), DEEP, *[8, 7] * 15)

    def test_calls_that_have_ended_do_not_count(self):
        ended = ("num", "num", (), 0)
        calls = tuple(("call", number, 0, 0) for number in range(1, 15))
        within = ("num", "num", calls, 14)
        body = (("num", 0, 7),) + tuple(("call", number, 1, 0) for number in range(1, 13)) + (("show", 12),)
        self.assert_run((), ((ended, within), body), ENDS, 7)

    def test_a_call_at_the_greatest_depth(self):
        # The functions told stand within 28 and 29 others when they call: the first may, the second may not.
        ended = ("num", "num", (("show", 0),), 0)
        asks = ("num", 6, 9), ("call", 7, 0, 6)
        function = (AGAIN, "num", asks + SHOWS + USES_ITSELF, 5)
        body = ("blank", 0), ("fun", 1, 1), ("put", 0, 1), ("call", 2, 1, 0)
        self.assert_run(DESIGN, ((ended, function), body), DEEP, *[9, 7] * 29)

    def test_within_tests(self):
        inner = ("test", 11, (("test", 11, USES_ITSELF),))
        function = (AGAIN, "num", SHOWS + (("big", 10, 1, 2), ("cell", 11, 10), inner), 1)
        body = ("big", 20, 1, 2), ("cell", 21, 20), ("test", 21, (("test", 21, self.start(0)[:4]),))
        self.assert_run(DESIGN, ((function,), body), DEEP, *[7] * 30)


if __name__ == "__main__":
    unittest.main()
