"""Points 6 and 8: statements and functions that may stand, and the places of those that may not."""

import unittest

from soundborder.checker import fault, lets_by, types
from soundborder.errors import NotMade
from tests.samples import ALL, BREAKERS, SETTER, plain, without

ANY = ("cell", "any")
NUMBERS = ("num", "num", (), 0)


class Checked(unittest.TestCase):
    """What the classes below ask of the checker."""

    def assert_place(self, design, program, place):
        self.assertEqual(fault(design, program), place, (design, program))
        self.assertIs(lets_by(design, program), place is None, (design, program))
        if place is not None:
            with self.assertRaises(NotMade):
                types(design, program)

    def assert_last(self, statements, good, bad):
        """The last of the statements may stand by the good designs, and is the first fault by the bad ones."""
        for design in good:
            self.assert_place(design, plain(*statements), None)
        for design in bad:
            self.assert_place(design, plain(*statements), (0, len(statements) - 1))

    def assert_types(self, design, program, *kinds):
        self.assertEqual(types(design, program), tuple(enumerate(kinds)))


class Examples(Checked):
    def test_the_examples(self):
        program = plain(("big", 0, 7, 8), ("cell", 1, 0), ("get", 2, 1, "small"), ("field", 3, 2, "a"), ("show", 3))
        put = plain(("num", 0, 1), ("cell", 1, 0), ("put", 1, 0))
        self.assertIsNone(fault((), program))
        self.assertEqual(types((), program), ((0, "big"), (1, ("cell", "big")), (2, "small"), (3, "num")))
        self.assertEqual(fault((), put), (0, 2))
        self.assertIs(lets_by(("put",), put), True)
        with self.assertRaises(NotMade):
            types((), plain(("show", 0)))

    def test_a_program_of_nothing(self):
        self.assert_place((), plain(), None)
        self.assertEqual(types((), plain()), ())

    def test_what_breaks_a_lot_is_let_by_where_all_of_the_lot_is_held(self):
        for lot, program in BREAKERS.items():
            self.assert_place(lot, program, None)
            for word in lot:
                self.assertIs(lets_by(tuple(other for other in lot if other != word), program), False, (lot, word))

    def test_checked_words_let_by_what_the_others_do(self):
        for lot in (("along", "put"), ("args",), ("cast",), ("none",)):
            self.assert_place(tuple([lot[0] + " checked"] + list(lot[1:])), BREAKERS[lot], None)


class Names(Checked):
    def test_a_new_name_must_be_new(self):
        makers = (
            ("num", 0, 1), ("small", 0, 1), ("big", 0, 1, 2), ("none", 0, "num"), ("name", 0, 0, "num"),
            ("cell", 0, 0), ("blank", 0), ("get", 0, 1, "num"), ("field", 0, 2, "a"), ("cast", 0, 2),
            ("fun", 0, 0), ("call", 0, 0, 0), ("use", 0, 3, 0),
        )
        before = (("num", 0, 1), ("cell", 1, 0), ("big", 2, 1, 2), ("fun", 3, 0))
        for statement in makers:
            self.assert_place(ALL, ((NUMBERS,), before + (statement,)), (1, 4))
            renamed = (statement[0], 4) + statement[2:]
            self.assert_place(ALL, ((NUMBERS,), before + (renamed,)), None)

    def test_the_others_must_be_known(self):
        before = (("num", 0, 1), ("cell", 1, 0), ("big", 2, 1, 2), ("fun", 3, 0))
        for statement in (
            ("name", 4, 9, "num"), ("cell", 4, 9), ("get", 4, 9, "num"), ("put", 9, 0), ("put", 1, 9),
            ("field", 4, 9, "a"), ("cast", 4, 9), ("test", 9, ()), ("call", 4, 0, 9), ("use", 4, 9, 0),
            ("use", 4, 3, 9), ("show", 9), ("name", 4, 4, "num"), ("cell", 4, 4), ("use", 4, 4, 4),
        ):
            self.assert_place(ALL, ((NUMBERS,), before + (statement,)), (1, 4))

    def test_the_argument_is_known_as_0(self):
        self.assert_place((), ((("num", "num", (("show", 0),), 0),), ()), None)
        self.assert_place((), ((("num", "num", (("num", 0, 1),), 0),), ()), (0, 0))
        self.assert_place((), plain(("show", 0)), (0, 0))
        self.assert_place((), ((NUMBERS,), (("show", 0),)), (1, 0))

    def test_names_of_other_bodies_are_not_known(self):
        one = ("num", "num", (("num", 1, 1),), 1)
        two = ("num", "num", (("show", 1),), 0)
        self.assert_place((), ((one, two), ()), (1, 0))
        self.assert_place((), ((one,), (("show", 1),)), (1, 0))
        self.assert_place((), ((one, one), (("num", 0, 1), ("num", 1, 1))), None)

    def test_names_of_a_test_are_known_in_it_alone(self):
        before = (("big", 0, 1, 2), ("cell", 1, 0))
        inner = ("test", 1, (("num", 2, 1), ("show", 2)))
        self.assert_place((), plain(*before, inner), None)
        self.assert_types((), plain(*before, inner), "big", ("cell", "big"))
        self.assert_place((), plain(*before, inner, ("show", 2)), (0, 3))
        self.assert_types((), plain(*before, inner, ("small", 2, 1)), "big", ("cell", "big"), "small")
        self.assert_place((), plain(*before, inner, inner), None)
        self.assert_place((), plain(*before, ("test", 1, (inner, inner, ("num", 2, 1)))), None)
        self.assert_place((), plain(*before, ("test", 1, (inner, ("show", 2)))), (0, 2, 1))
        self.assert_place((), plain(*before, ("test", 1, (("num", 2, 1), inner))), (0, 2, 1, 0))

    def test_names_around_a_test_must_stay_new(self):
        before = (("big", 0, 1, 2), ("cell", 1, 0))
        self.assert_place((), plain(*before, ("test", 1, (("num", 0, 1),))), (0, 2, 0))
        self.assert_place((), plain(*before, ("test", 1, (("test", 1, (("num", 1, 1),)),))), (0, 2, 0, 0))

    def test_types_are_ascending_by_their_names(self):
        program = plain(("num", 40, 1), ("small", 3, 1), ("big", 11, 1, 2))
        self.assertEqual(types((), program), ((3, "small"), (11, "big"), (40, "num")))


class Statements(Checked):
    def test_records_and_numbers(self):
        self.assert_last((("num", 0, 1),), ((), ALL), ())
        self.assert_types((), plain(("num", 0, 1), ("small", 1, 2), ("big", 2, 3, 4)), "num", "small", "big")

    def test_none(self):
        for kind in ("num", ("cell", "num"), ("fun", "num", ("cell", "big"))):
            self.assert_last(
                (("none", 0, kind),), (("none",), ("none checked",), ("none", "none checked")),
                ((), without("none", "none checked")),
            )
            self.assert_types(("none",), plain(("none", 0, kind)), kind)

    def test_name(self):
        big = ("big", 0, 1, 2)
        self.assert_last((big, ("name", 1, 0, "big")), ((),), ())
        self.assert_last((big, ("name", 1, 0, "small")), ((),), ())
        self.assert_types((), plain(big, ("name", 1, 0, "small")), "big", "small")
        self.assert_last((big, ("name", 1, 0, "num")), (), ((), ALL))
        self.assert_last((("small", 0, 1), ("name", 1, 0, "big")), (), ((), ALL))

    def test_name_of_a_cell(self):
        cell = (("big", 0, 1, 2), ("cell", 1, 0))
        self.assert_last(cell + (("name", 2, 1, ("cell", "big")),), (("share",),), ((), without("share")))
        self.assert_last(cell + (("name", 2, 1, ("cell", "small")),), (("along", "share"),), (("share",), ("along",)))
        blank = (("blank", 0), ("name", 1, 0, ("cell", ("fun", "num", "num"))))
        self.assert_last(blank, (("blank", "share"),), (without("share"),))
        self.assert_types(("blank", "share"), plain(*blank), ANY, ("cell", ("fun", "num", "num")))

    def test_cell(self):
        self.assert_last((("num", 0, 1), ("cell", 1, 0)), ((),), ())
        two = (("num", 0, 1), ("cell", 1, 0), ("cell", 2, 1))
        self.assert_last(two, (("share",),), ((), without("share")))
        self.assert_types(("share",), plain(*two), "num", ("cell", "num"), ("cell", ("cell", "num")))
        self.assert_place((), ((NUMBERS,), (("fun", 0, 0), ("cell", 1, 0))), None)

    def test_cell_of_a_blank_cell(self):
        self.assert_last((("blank", 0), ("cell", 1, 0)), (), (("blank",), ("blank", "share"), ALL))
        named = (("blank", 0), ("name", 1, 0, ("cell", "num")), ("cell", 2, 1))
        self.assert_last(named, (("blank", "share"),), ())

    def test_cells_of_more_than_three_tuples(self):
        program = plain(("num", 0, 1), *[("cell", number + 1, number) for number in range(14)])
        kind = "num"
        for _ in range(14):
            kind = ("cell", kind)
        self.assertEqual(types(("share",), program)[14], (14, kind))

    def test_blank(self):
        self.assert_last((("blank", 0),), (("blank",),), ((), without("blank")))
        self.assert_types(("blank",), plain(("blank", 0)), ANY)

    def test_get(self):
        cell = (("big", 0, 1, 2), ("cell", 1, 0))
        self.assert_last(cell + (("get", 2, 1, "big"),), ((),), ())
        self.assert_last(cell + (("get", 2, 1, "small"),), ((),), ())
        self.assert_types((), plain(*cell, ("get", 2, 1, "small")), "big", ("cell", "big"), "small")
        self.assert_last(cell + (("get", 2, 1, "num"),), (), ((), ALL))
        self.assert_last((("small", 0, 1), ("cell", 1, 0), ("get", 2, 1, "big")), (), ((), ALL))

    def test_get_of_no_cell(self):
        for statement in (("num", 0, 1), ("big", 0, 1, 2), ("none", 0, ("fun", "num", "num"))):
            self.assert_last((statement, ("get", 1, 0, "num")), (), (("none",), ALL))

    def test_get_of_a_cell(self):
        two = (("num", 0, 1), ("cell", 1, 0), ("cell", 2, 1), ("get", 3, 2, ("cell", "num")))
        self.assert_last(two, (("share",),), ())
        blank = (("blank", 0), ("get", 1, 0, ("cell", "num")))
        self.assert_last(blank, (("blank", "share"),), (("blank",), without("share")))
        for kind in ("num", "big", ("fun", ("cell", "num"), ("cell", "num"))):
            self.assert_last((("blank", 0), ("get", 1, 0, kind)), (("blank",),), ())

    def test_put(self):
        one = (("num", 0, 1), ("cell", 1, 0), ("put", 1, 0))
        self.assert_last(one, (("put",),), ((), without("put")))
        self.assert_types(("put",), plain(*one), "num", ("cell", "num"))
        for kind in ("num", "small", ("fun", "num", "num")):
            self.assert_last((("none", 0, kind), ("num", 1, 1), ("put", 0, 1)), (), (("none", "put"), ALL))
        narrow = (("big", 0, 1, 2), ("small", 1, 1), ("cell", 2, 0), ("put", 2, 1))
        self.assert_last(narrow, (), (("put",), ALL))
        wide = (("big", 0, 1, 2), ("small", 1, 1), ("cell", 2, 1), ("put", 2, 0))
        self.assert_last(wide, (("put",),), ((), without("put")))

    def test_put_of_a_cell(self):
        nested = (("num", 0, 1), ("cell", 1, 0), ("cell", 2, 1), ("put", 2, 1))
        self.assert_last(nested, (("put", "share"),), ())
        blank = (("blank", 0), ("put", 0, 0))
        self.assert_last(blank, (("blank", "put", "share"),), (("blank", "put"), ("blank", "share")))
        plain_cell = (("num", 0, 1), ("cell", 1, 0), ("blank", 2), ("put", 2, 1))
        self.assert_last(plain_cell, (("blank", "put", "share"),), ())
        into = (("none", 0, ("cell", ("cell", "num"))), ("blank", 1), ("put", 0, 1))
        self.assert_last(into, (("blank", "none", "put", "share"),), (without("share"),))

    def test_put_into_a_blank_cell(self):
        for statement in (("num", 0, 1), ("big", 0, 1, 2), ("none", 0, ("fun", "num", "num"))):
            self.assert_last((statement, ("blank", 1), ("put", 1, 0)), (("blank", "none", "put"),), ())

    def test_put_of_cells_within_many_cells(self):
        tower = [("num", 0, 1), ("small", 20, 1)]
        for number in range(6):
            tower += [("cell", number + 1, number), ("cell", number + 21, number + 20)]
        self.assert_place(("put", "share"), plain(*tower, ("put", 6, 5)), None)
        self.assert_place(ALL, plain(*tower, ("put", 6, 25)), (0, 14))
        tower[0] = ("big", 0, 1, 2)
        for design, narrow, wide in (
            (("put", "share"), (0, 14), (0, 14)), (("along", "put", "share"), (0, 14), None),
            (("against", "put", "share"), None, (0, 14)), (ALL, None, None),
        ):
            self.assert_place(design, plain(*tower, ("put", 6, 25)), narrow)
            self.assert_place(design, plain(*tower, ("put", 26, 5)), wide)

    def test_field(self):
        for letter in ("a", "b"):
            self.assert_last((("big", 0, 1, 2), ("field", 1, 0, letter)), ((),), ())
        self.assert_types((), plain(("small", 0, 1), ("field", 1, 0, "a")), "small", "num")
        self.assert_last((("small", 0, 1), ("field", 1, 0, "b")), (), ((), ALL))
        for statement in (("num", 0, 1), ("blank", 0), ("none", 0, ("fun", "big", "big"))):
            self.assert_last((statement, ("field", 1, 0, "a")), (), (ALL,))

    def test_cast(self):
        for statement in (("small", 0, 1), ("big", 0, 1, 2)):
            self.assert_last(
                (statement, ("cast", 1, 0)), (("cast",), ("cast checked",), ("cast", "cast checked")),
                ((), without("cast", "cast checked")),
            )
            self.assert_types(("cast",), plain(statement, ("cast", 1, 0)), statement[0], "big")
        for statement in (("num", 0, 1), ("blank", 0), ("none", 0, ("fun", "big", "big"))):
            self.assert_last((statement, ("cast", 1, 0)), (), (ALL,))

    def test_test(self):
        for statement in (("small", 0, 1), ("big", 0, 1, 2)):
            self.assert_last((statement, ("cell", 1, 0), ("test", 1, ())), ((),), ())
        self.assert_last((("blank", 0), ("test", 0, ())), (("blank",),), ())
        self.assert_last((("num", 0, 1), ("cell", 1, 0), ("test", 1, ())), (), ((), ALL))
        self.assert_last((("big", 0, 1, 2), ("cell", 1, 0), ("cell", 2, 1), ("test", 2, ())), (), (("share",), ALL))
        for statement in (("num", 0, 1), ("big", 0, 1, 2), ("none", 0, ("fun", "big", "big"))):
            self.assert_last((statement, ("test", 0, ())), (), (ALL,))

    def test_test_looks_at_its_cell_first(self):
        self.assert_place(ALL, plain(("num", 0, 1), ("test", 0, (("show", 9),))), (0, 1))

    def test_show(self):
        self.assert_last((("num", 0, 1), ("show", 0)), ((),), ())
        for statement in (("small", 0, 1), ("big", 0, 1, 2), ("blank", 0), ("none", 0, ("fun", "num", "num"))):
            self.assert_last((statement, ("show", 0)), (), (ALL,))


class Functions(Checked):
    def test_fun(self):
        for many in range(4):
            for number in range(3):
                place = None if number < many else (many, 0)
                self.assert_place((), ((NUMBERS,) * many, (("fun", 0, number),)), place)
        deep = (("fun", "num", ("fun", "num", ("fun", "num", "big"))), "num", (("num", 1, 1),), 1)
        self.assert_types((), ((deep,), (("fun", 0, 0),)), ("fun", deep[0], "num"))

    def test_earlier_functions(self):
        for word in ("fun", "call"):
            statement = ("fun", 1, 1) if word == "fun" else ("call", 1, 1, 0)
            asks = ("num", "num", (statement,), 0)
            self.assert_place((), ((NUMBERS, NUMBERS, asks), ()), None)
            self.assert_place((), ((NUMBERS, asks, NUMBERS), ()), (1, 0))
            self.assert_place((), ((asks, NUMBERS, NUMBERS), ()), (0, 0))

    def test_call(self):
        takes_small = ("small", "num", (("num", 1, 1),), 1)
        for many in range(3):
            self.assert_place((), ((takes_small,) * many, (("small", 0, 1), ("call", 1, many, 0))), (many, 1))
        self.assert_place((), ((takes_small,), (("small", 0, 1), ("call", 1, 0, 0))), None)
        self.assert_place((), ((takes_small,), (("big", 0, 1, 2), ("call", 1, 0, 0))), None)
        self.assert_types((), ((takes_small,), (("big", 0, 1, 2), ("call", 1, 0, 0))), "big", "num")
        self.assert_place(ALL, ((takes_small,), (("num", 0, 1), ("call", 1, 0, 0))), (1, 1))
        takes_big = ("big", "num", (("num", 1, 1),), 1)
        self.assert_place(ALL, ((takes_big,), (("small", 0, 1), ("call", 1, 0, 0))), (1, 1))

    def test_call_takes_a_cell(self):
        body = (("big", 0, 1, 2), ("cell", 1, 0), ("call", 2, 0, 1))
        self.assert_place(("along", "put"), ((SETTER,), body), None)
        self.assert_place(("against", "put"), ((SETTER,), body), (1, 2))
        self.assert_place(("along",), ((SETTER,), body), (0, 1))
        blank = (("blank", 0), ("call", 1, 0, 0))
        self.assert_place(("blank", "put"), ((SETTER,), blank), None)

    def test_use(self):
        takes_small = ("small", "num", (("num", 1, 1),), 1)
        for kind, place in (("small", None), ("num", (1, 2))):
            program = ((takes_small,), (("fun", 0, 0), (kind, 1, 1), ("use", 2, 0, 1)))
            self.assert_place((), program, place)
        program = ((takes_small,), (("fun", 0, 0), ("big", 1, 1, 2), ("use", 2, 0, 1)))
        self.assert_types((), program, ("fun", "small", "num"), "big", "num")
        for kind in ("num", "small", ("cell", ("fun", "num", "num"))):
            program = plain(("none", 0, kind), ("num", 1, 1), ("use", 2, 0, 1))
            self.assert_place(ALL, program, (0, 2))

    def test_use_of_what_gives_a_cell(self):
        statements = (("none", 0, ("fun", "num", ("cell", "num"))), ("num", 1, 1), ("use", 2, 0, 1))
        self.assert_last(statements, (("none", "share"),), (("none",), without("share")))

    def test_use_by_the_type_that_is_named(self):
        takes_big = ("big", "num", (("num", 1, 1),), 1)
        named = (("fun", 0, 0), ("name", 1, 0, ("fun", "small", "num")), ("small", 2, 1), ("use", 3, 1, 2))
        self.assert_place(("args",), ((takes_big,), named), None)
        self.assert_place(("args checked",), ((takes_big,), named), None)
        self.assert_place(without("args", "args checked"), ((takes_big,), named), (1, 1))

    def test_a_result_that_is_a_cell(self):
        gives = ("num", ("cell", "num"), (("cell", 1, 0),), 1)
        self.assert_place(("share",), ((gives,), ()), None)
        self.assert_place(without("share"), ((gives,), ()), (0,))
        self.assert_place((), ((NUMBERS, gives), ()), (1,))
        # An argument may be a cell, and so may a result's own result.
        self.assert_place((), (((("cell", "num"), "num", (("num", 1, 1),), 1),), ()), None)
        gives_function = (("fun", "num", ("cell", "num")), ("fun", "num", ("cell", "num")), (), 0)
        self.assert_place((), ((gives_function,), ()), None)

    def test_what_is_told(self):
        cases = (
            (("num", "num", (), 0), None), (("big", "small", (), 0), None), (("small", "big", (), 0), (0,)),
            (("num", "num", (), 1), (0,)), (("num", "num", (("num", 1, 1),), 1), None),
            (("num", "small", (("num", 1, 1),), 1), (0,)),
        )
        for function, place in cases:
            self.assert_place((), ((function,), ()), place)

    def test_what_is_told_is_not_made_within_a_test(self):
        body = (("cell", 1, 0), ("test", 1, (("num", 2, 1),)))
        self.assert_place((), ((("big", "num", body, 2),), ()), (0,))
        self.assert_place((), ((("big", "num", body + (("num", 2, 1),), 2),), ()), None)

    def test_what_is_told_may_be_a_cell_by_share(self):
        self.assert_place(("share",), (((("cell", "big"), ("cell", "small"), (), 0),), ()), (0,))
        self.assert_place(("along", "share"), (((("cell", "big"), ("cell", "small"), (), 0),), ()), None)
        blank = ("num", ("cell", "num"), (("blank", 1),), 1)
        self.assert_place(("blank", "share"), ((blank,), ()), None)


class FirstFault(Checked):
    def test_the_order_within_a_function(self):
        all_three = ("num", ("cell", "num"), (("show", 9),), 9)
        self.assert_place((), ((all_three,), ()), (0,))
        self.assert_place(("share",), ((all_three,), ()), (0, 0))
        self.assert_place((), ((("num", "num", (("show", 0), ("show", 9)), 9),), ()), (0, 1))

    def test_functions_in_order_and_then_the_body(self):
        bad = ("num", "num", (), 9)
        self.assert_place((), ((bad, bad), (("show", 9),)), (0,))
        self.assert_place((), ((NUMBERS, bad), (("show", 9),)), (1,))
        for many in range(4):
            self.assert_place((), ((NUMBERS,) * many, (("num", 0, 1), ("show", 9), ("show", 8))), (many, 1))

    def test_within_tests(self):
        before = (("big", 0, 1, 2), ("cell", 1, 0))
        inner = ("test", 1, (("num", 2, 1), ("show", 2), ("show", 9)))
        self.assert_place((), plain(*before, inner), (0, 2, 2))
        self.assert_place((), plain(*before, ("test", 1, (("num", 3, 1), inner)), ("show", 9)), (0, 2, 1, 2))
        self.assert_place((), plain(*before, ("test", 1, ()), ("show", 9)), (0, 3))
        function = ("big", "num", (("cell", 1, 0), ("test", 1, (("test", 1, (("show", 0),)),))), 9)
        self.assert_place((), ((NUMBERS, function), ()), (1, 1, 0, 0))


if __name__ == "__main__":
    unittest.main()
