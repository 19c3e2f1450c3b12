"""Points 2 to 4: types, designs, and lying within."""

import unittest

from soundborder.designs import is_design, is_type, lies_within
from soundborder.errors import BadDesign, BadType

WORDS = (
    "against", "along", "along checked", "args", "args checked", "blank", "calls",
    "cast", "cast checked", "keep", "none", "none checked", "put", "share",
)


def cells(many, kind):
    for _ in range(many):
        kind = ("cell", kind)
    return kind


def has(design, word):
    return word in design or word + " checked" in design


def told_within(design, one, other):
    """Point 4, word by word."""
    if one == other or (one, other) == ("big", "small"):
        return True
    if one[0] == other[0] == "cell":
        along = has(design, "along") and told_within(design, one[1], other[1])
        return along or "against" in design and told_within(design, other[1], one[1])
    if one[0] == other[0] == "fun" and told_within(design, one[2], other[2]):
        args = has(design, "args") and told_within(design, one[1], other[1])
        return args or told_within(design, other[1], one[1])
    return False


class Types(unittest.TestCase):
    def test_types(self):
        for value in ("num", "small", "big", ("cell", "num"), ("fun", "num", "big"), ("fun", ("cell", "big"), "small")):
            self.assertIs(is_type(value), True, value)

    def test_three_tuples_within_one_another_and_four(self):
        self.assertIs(is_type(cells(3, "small")), True)
        self.assertIs(is_type(cells(4, "small")), False)
        for inner in (("cell", "num"), ("fun", "num", "num")):
            self.assertIs(is_type(("cell", ("cell", inner))), True)
            self.assertIs(is_type(("fun", "num", ("fun", "num", inner))), True)
            self.assertIs(is_type(("fun", ("fun", inner, "num"), "num")), True)
            self.assertIs(is_type(("cell", ("cell", ("cell", inner)))), False)
            self.assertIs(is_type(("fun", "num", ("fun", ("cell", inner), "num"))), False)
            self.assertIs(is_type(("fun", ("cell", ("cell", inner)), "num")), False)

    def test_tuples_beside_one_another_do_not_count(self):
        wide = ("fun", cells(2, "num"), ("fun", ("cell", "num"), ("cell", "big")))
        self.assertIs(is_type(wide), True)

    def test_what_is_none(self):
        none = (
            "", "Num", "num ", "any", "cell", "fun", (), ("num",), ("cell",), ("fun",), ("cell", "any"), ("cell", ""),
            ("cell", "num", "num"), ("fun", "num"), ("fun", "num", "num", "num"), ("num", "num"), ("fun", "num", "any"),
            ["cell", "num"], ("cell", ["cell", "num"]), ("cell", None), ("cell", 0), ("cell", True), ("Cell", "num"),
            (("cell",), "num"), (["cell"], "num"), ("fun", "num", ["num"]), {"cell": "num"}, b"num", 0, False,
        )
        for value in none:
            self.assertIs(is_type(value), False, value)

    def test_many_tuples_within_one_another(self):
        self.assertIs(is_type(cells(100000, "num")), False)


class Designs(unittest.TestCase):
    def test_designs(self):
        self.assertIs(is_design(()), True)
        self.assertIs(is_design(WORDS), True)
        for word in WORDS:
            self.assertIs(is_design((word,)), True, word)
        self.assertIs(is_design(("along", "along checked", "put")), True)

    def test_another_order(self):
        self.assertIs(is_design(("put", "along")), False)
        self.assertIs(is_design(("along checked", "along")), False)
        self.assertIs(is_design(tuple(reversed(WORDS))), False)
        for at in range(len(WORDS) - 1):
            swapped = WORDS[:at] + (WORDS[at + 1], WORDS[at]) + WORDS[at + 2:]
            self.assertIs(is_design(swapped), False, swapped)

    def test_a_word_twice(self):
        for word in WORDS:
            self.assertIs(is_design((word, word)), False, word)
        self.assertIs(is_design(WORDS + ("share",)), False)

    def test_what_is_none(self):
        none = (
            "put", ["put"], {"put"}, {"put": 1}, ("get",), ("Put",), ("put ",), ("put checked",), ("keep checked",),
            ("against checked",), ("along  checked",), ("checked",), ("",), (0,), (True,), (None,), (("put",),),
            (["put"],), ({},), ("along", 1), (1, "along"), ("along", None, "put"), 0, False, None, b"put", (b"put",),
        )
        for value in none:
            self.assertIs(is_design(value), False, value)


class LiesWithin(unittest.TestCase):
    def within(self, design, one, other):
        found = lies_within(design, one, other)
        self.assertIsInstance(found, bool)
        return found

    def test_the_examples(self):
        self.assertEqual(
            [
                is_type(("cell", "any")), is_design(("along", "put")),
                lies_within(("along",), ("cell", "big"), ("cell", "small")),
                lies_within((), ("cell", "big"), ("cell", "small")),
                lies_within((), ("fun", "small", "big"), ("fun", "big", "small")),
            ],
            [False, True, True, False, True],
        )
        with self.assertRaises(BadType):
            lies_within((), "num", ("cell", "any"))

    def test_plain_types(self):
        kinds = ("num", "small", "big", ("cell", "num"), ("fun", "num", "num"))
        for design in ((), WORDS):
            for one in kinds:
                for other in kinds:
                    wanted = one == other or (one, other) == ("big", "small")
                    self.assertIs(self.within(design, one, other), wanted, (one, other))

    def test_cells(self):
        big, small = ("cell", "big"), ("cell", "small")
        cases = (
            ((), False, False), (("along",), True, False), (("along checked",), True, False),
            (("along", "along checked"), True, False), (("against",), False, True),
            (("against", "along"), True, True), (("against", "along checked"), True, True),
            (("args", "put", "share"), False, False),
        )
        for design, forth, back in cases:
            self.assertIs(self.within(design, big, small), forth, design)
            self.assertIs(self.within(design, small, big), back, design)
            self.assertIs(self.within(design, big, big), True)
            self.assertIs(self.within(design, big, ("cell", "num")), False)
            self.assertIs(self.within(design, big, "small"), False)

    def test_cells_of_cells(self):
        big, small = cells(2, "big"), cells(2, "small")
        self.assertIs(self.within((), big, small), False)
        self.assertIs(self.within(("along",), big, small), True)
        self.assertIs(self.within(("along",), small, big), False)
        # Turned round twice.
        self.assertIs(self.within(("against",), big, small), True)
        self.assertIs(self.within(("against",), small, big), False)
        self.assertIs(self.within(("against",), cells(3, "big"), cells(3, "small")), False)
        self.assertIs(self.within(("against",), cells(3, "small"), cells(3, "big")), True)
        self.assertIs(self.within(("against", "along"), cells(3, "small"), cells(3, "big")), True)
        self.assertIs(self.within(("against", "along"), cells(3, "small"), cells(3, "num")), False)

    def test_results_of_functions(self):
        self.assertIs(self.within((), ("fun", "num", "big"), ("fun", "num", "small")), True)
        for design in ((), ("args",), WORDS):
            self.assertIs(self.within(design, ("fun", "num", "small"), ("fun", "num", "big")), False)
            self.assertIs(self.within(design, ("fun", "num", "small"), ("fun", "num", "num")), False)

    def test_arguments_of_functions(self):
        takes_small, takes_big = ("fun", "small", "num"), ("fun", "big", "num")
        for design in ((), ("against", "along")):
            self.assertIs(self.within(design, takes_small, takes_big), True)
            self.assertIs(self.within(design, takes_big, takes_small), False)
        for design in (("args",), ("args checked",), ("args", "args checked")):
            self.assertIs(self.within(design, takes_small, takes_big), True)
            self.assertIs(self.within(design, takes_big, takes_small), True)
            self.assertIs(self.within(design, takes_big, ("fun", "num", "num")), False)

    def test_results_and_arguments_by_different_ways(self):
        one, other = ("fun", "big", "big"), ("fun", "small", "small")
        self.assertIs(self.within((), one, other), False)
        self.assertIs(self.within(("args",), one, other), True)
        self.assertIs(self.within(("args",), other, one), False)

    def test_functions_that_take_functions(self):
        one, other = ("fun", ("fun", "small", "num"), "num"), ("fun", ("fun", "big", "num"), "num")
        self.assertIs(self.within((), one, other), False)
        self.assertIs(self.within((), other, one), True)
        self.assertIs(self.within(("args",), one, other), True)

    def test_functions_of_cells_and_cells_of_functions(self):
        one, other = ("fun", ("cell", "small"), ("cell", "big")), ("fun", ("cell", "big"), ("cell", "small"))
        self.assertIs(self.within((), one, other), False)
        self.assertIs(self.within(("along",), one, other), True)
        self.assertIs(self.within(("against",), one, other), False)
        self.assertIs(self.within(("against",), other, one), True)
        one, other = ("cell", ("fun", "small", "num")), ("cell", ("fun", "big", "num"))
        self.assertIs(self.within(("along",), one, other), True)
        self.assertIs(self.within(("along",), other, one), False)
        self.assertIs(self.within(("along", "args"), other, one), True)

    def test_word_by_word(self):
        kinds = ["num", "small", "big"]
        small_ones = kinds + [("cell", kind) for kind in kinds] + [("fun", one, "num") for one in kinds]
        small_ones += [("fun", "num", kind) for kind in kinds[1:]]
        all_ones = small_ones + [("cell", kind) for kind in small_ones[3:]]
        all_ones += [("cell", ("cell", kind)) for kind in small_ones[3:]]
        all_ones += [("fun", one, other) for one in small_ones[1:] for other in small_ones[1:]]
        for design in (
            (), ("against",), ("along",), ("args",), ("against", "along checked"), ("against", "args checked"),
            ("along", "along checked", "args"), ("against", "along", "args"),
        ):
            for one in all_ones:
                for other in all_ones:
                    wanted = told_within(design, one, other)
                    self.assertIs(self.within(design, one, other), wanted, (design, one, other))

    def test_wrong_values(self):
        deep = cells(4, "num")
        for one, other in ((deep, "num"), ("num", deep), ("any", "num"), ("num", ["cell", "num"]), (None, None)):
            with self.assertRaises(BadType):
                lies_within((), one, other)
        for design in (["along"], ("put", "along"), ("along", "along"), ("any",), "along", None):
            with self.assertRaises(BadDesign):
                lies_within(design, "num", "num")


if __name__ == "__main__":
    unittest.main()
