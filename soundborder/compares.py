"""Designs compared: which of two lets by what the other one does."""

from soundborder.borders import breaker
from soundborder.designs import has, require_design

CHECKED = " checked"
MAY_BE_CHECKED = ("along", "args", "cast", "none")
STRENGTHS = ("against", "along", "args", "blank", "calls", "cast", "keep", "none", "put", "share")

# For each strength but those that are lots of their own, a program that is let
# by where a design has the strength, and by no other design.
PARTINGS = {
    "along": (
        ((("cell", "small"), "num", (("get", 1, 0, "small"), ("field", 2, 1, "a")), 2),),
        (("big", 0, 1, 2), ("cell", 1, 0), ("call", 2, 0, 1)),
    ),
    "blank": ((), (("blank", 0),)),
    "calls": (
        (("num", "num", (), 0),),
        (("small", 0, 1), ("cell", 1, 0), ("num", 2, 1), ("test", 1, (("call", 3, 0, 2), ("get", 4, 1, "big")))),
    ),
    "cast": ((), (("small", 0, 1), ("cast", 1, 0))),
    "keep": ((), (("small", 0, 1), ("cell", 1, 0), ("test", 1, (("get", 2, 1, "big"),)))),
    "none": ((), (("none", 0, "num"),)),
    "put": ((), (("num", 0, 1), ("cell", 1, 0), ("put", 1, 0))),
    "share": ((), (("num", 0, 1), ("cell", 1, 0), ("name", 2, 1, ("cell", "num")))),
}


def strengths(design):
    """The words on which it depends what the design lets by."""
    require_design(design)
    return tuple([word for word in STRENGTHS if _is_strength(design, word)])


def _is_strength(design, word):
    """Whether the word, which is no checked one, is a strength of the design."""
    if word == "calls" and "keep" not in design:
        # What calls leave known big is nothing where nothing is kept.
        return False
    return has(design, word)


def lets_by_all(one, other):
    """Whether one lets by each program that other lets by."""
    return _lacked(one, other) == []


def parting(one, other):
    """A program that is let by other and not by one, or None if there is none."""
    lacked = _lacked(one, other)
    if lacked == []:
        return None
    least = lacked[0]
    if least in PARTINGS:
        return PARTINGS[least]
    return breaker((least,))


def _lacked(one, other):
    """The strengths, ascending, that other has and one has not."""
    had = strengths(one)
    return [word for word in strengths(other) if word not in had]


def checked(design):
    """The design with the checked words for the unchecked ones."""
    require_design(design)
    return tuple(sorted({_checked_word(word) for word in design}))


def _checked_word(word):
    """The checked word for one that may be checked, and each other word itself."""
    if word in MAY_BE_CHECKED:
        return word + CHECKED
    return word


def unchecked(design):
    """The design with the unchecked words for the checked ones."""
    require_design(design)
    return tuple(sorted({word.removesuffix(CHECKED) for word in design}))
