"""Point 7: the names that are known big."""

import unittest

from soundborder.checker import fault

NUMBERS = ("num", "num", (), 0)
# 0 and 2 are records, 1 and 3 cells at "small"; 4 is a number, 5 a function.
BEFORE = (
    ("big", 0, 1, 2), ("name", 2, 0, "small"), ("cell", 1, 2), ("cell", 3, 2), ("num", 4, 1), ("fun", 5, 0),
)
FIRST = len(BEFORE)
KEEP = ("keep", "put")
CALLS = ("calls", "keep", "put")


def get(name, cell):
    return ("get", name, cell, "big")


class KnownBig(unittest.TestCase):
    def place(self, design, *statements):
        """The place of the first fault behind BEFORE, its first two numbers left out."""
        found = fault(design, ((NUMBERS,), BEFORE + statements))
        if found is None:
            return None
        self.assertEqual(found[0], 1)
        return (found[1] - FIRST,) + found[2:]

    def test_in_the_body_of_a_test_by_keep_alone(self):
        test = ("test", 1, (get(9, 1),))
        self.assertIsNone(self.place(("keep",), test))
        for design in ((), ("put",), ("calls",), ("calls", "put", "share")):
            self.assertEqual(self.place(design, test), (0, 0), design)

    def test_not_before_and_not_behind(self):
        self.assertEqual(self.place(("keep",), get(9, 1)), (0,))
        self.assertEqual(self.place(("keep",), ("test", 1, ()), get(9, 1)), (1,))

    def test_no_other_cell(self):
        self.assertEqual(self.place(("keep",), ("test", 1, (get(9, 3),))), (0, 0))

    def test_what_is_got(self):
        for kind, place in (("big", None), ("small", None), ("num", (0, 0)), (("fun", "num", "num"), (0, 0))):
            self.assertEqual(self.place(("keep",), ("test", 1, (("get", 9, 1, kind),))), place, kind)
        self.assertEqual(self.place(("keep", "share"), ("test", 1, (("get", 9, 1, ("cell", "big")),))), (0, 0))

    def test_with_all_that_are_known_big_around(self):
        both = ("test", 1, (("test", 3, (get(9, 1), get(10, 3))), get(9, 1)))
        self.assertIsNone(self.place(("keep",), both))
        behind = ("test", 1, (("test", 3, ()), get(9, 3)))
        self.assertEqual(self.place(("keep",), behind), (0, 1))

    def test_lost_by_a_put_to_it(self):
        for design in (KEEP, CALLS):
            self.assertEqual(self.place(design, ("test", 1, (("put", 1, 2), get(9, 1)))), (0, 1))
            self.assertEqual(self.place(design, ("test", 1, (get(9, 1), ("put", 1, 2), get(10, 1)))), (0, 2))
            self.assertEqual(self.place(design, ("test", 1, (("put", 1, 0), get(9, 1)))), (0, 1))

    def test_not_lost_by_a_put_to_another(self):
        self.assertIsNone(self.place(KEEP, ("test", 1, (("put", 3, 2), get(9, 1)))))
        nested = ("test", 1, (("test", 3, (("put", 1, 2), get(9, 3))),))
        self.assertIsNone(self.place(KEEP, nested))

    def test_lost_by_a_call_or_a_use(self):
        for statement in (("call", 8, 0, 4), ("use", 8, 5, 4)):
            test = ("test", 1, (statement, get(9, 1)))
            self.assertEqual(self.place(("keep",), test), (0, 1))
            self.assertEqual(self.place(KEEP, test), (0, 1))
            nested = ("test", 1, (("test", 3, (statement, get(9, 3))),))
            self.assertEqual(self.place(("keep",), nested), (0, 0, 1))
            around = ("test", 1, (("test", 3, (statement, get(9, 1))),))
            self.assertEqual(self.place(("keep",), around), (0, 0, 1))

    def test_kept_at_a_call_or_a_use_by_calls(self):
        for statement in (("call", 8, 0, 4), ("use", 8, 5, 4)):
            self.assertIsNone(self.place(("calls", "keep"), ("test", 1, (statement, get(9, 1)))))
            nested = ("test", 1, (("test", 3, (statement, get(9, 1), get(10, 3))), get(9, 1)))
            self.assertIsNone(self.place(("calls", "keep"), nested))

    def test_not_lost_by_other_statements(self):
        others = (("num", 20, 1), ("cell", 21, 20), ("name", 22, 4, "num"), ("fun", 23, 0), ("show", 4), get(24, 1))
        self.assertIsNone(self.place(("keep",), ("test", 1, others + (get(25, 1),))))

    def test_lost_behind_a_test_within_a_test(self):
        for statement in (("put", 1, 2), ("call", 8, 0, 4), ("use", 8, 5, 4)):
            for inner in (1, 3):
                self.assertEqual(self.place(KEEP, ("test", 1, (("test", inner, (statement,)), get(9, 1)))), (0, 1))
        self.assertEqual(self.place(CALLS, ("test", 1, (("test", 3, (("put", 1, 2),)), get(9, 1)))), (0, 1))

    def test_kept_behind_a_test_within_a_test(self):
        for statement in (("put", 3, 2), ("show", 4), get(20, 1)):
            self.assertIsNone(self.place(KEEP, ("test", 1, (("test", 3, (statement,)), get(9, 1)))))
        for statement in (("call", 8, 0, 4), ("use", 8, 5, 4)):
            self.assertIsNone(self.place(CALLS, ("test", 1, (("test", 3, (statement,)), get(9, 1)))))

    def test_known_again_by_a_further_test(self):
        again = ("test", 1, (("put", 1, 2), ("test", 1, (get(9, 1),))))
        self.assertIsNone(self.place(KEEP, again))
        # Behind that test it is lost as it was in front of it.
        self.assertEqual(self.place(KEEP, ("test", 1, (("put", 1, 2), ("test", 1, (get(9, 1),)), get(10, 1)))), (0, 2))

    def test_tested_twice_and_lost_within(self):
        twice = ("test", 1, (("test", 1, (("put", 1, 2), get(9, 1))),))
        self.assertEqual(self.place(KEEP, twice), (0, 0, 1))
        self.assertIsNone(self.place(KEEP, ("test", 1, (("test", 1, (get(9, 1),)), get(9, 1)))))

    def test_a_name_that_is_made_within_a_test(self):
        made = (("name", 20, 2, "small"), ("cell", 21, 20), ("test", 21, (get(22, 21), get(23, 1))))
        self.assertIsNone(self.place(("keep",), ("test", 1, made)))
        again = ("test", 1, made), ("name", 20, 2, "small"), ("cell", 21, 20), get(22, 21)
        self.assertEqual(self.place(("keep",), *again), (3,))

    def test_in_a_function(self):
        body = (("test", 0, (("get", 1, 0, "big"), ("field", 2, 1, "b"), ("show", 2))), ("num", 1, 1))
        program = (((("cell", "small"), "num", body, 1),), ())
        self.assertIsNone(fault(("keep",), program))
        self.assertEqual(fault((), program), (0, 0, 0))

    def test_a_function_does_not_know_what_its_caller_does(self):
        asks = (("cell", "small"), "num", (("get", 1, 0, "big"), ("field", 2, 1, "b")), 2)
        program = ((asks,), (("small", 0, 1), ("cell", 1, 0), ("test", 1, (("call", 2, 0, 1),))))
        self.assertEqual(fault(("calls", "keep"), program), (0, 0))

    def test_a_cell_that_is_used_by_two_names(self):
        # The other name's put is not one to the name that is known big.
        body = BEFORE + (("name", 20, 1, ("cell", "small")), ("test", 1, (("put", 20, 2), get(21, 1))))
        self.assertIsNone(fault(("keep", "put", "share"), ((NUMBERS,), body)))

    def test_blank_cells(self):
        body = (("blank", 0), ("test", 0, (("get", 1, 0, "big"), ("get", 2, 0, "num"))))
        self.assertIsNone(fault(("blank",), ((), body)))


if __name__ == "__main__":
    unittest.main()
