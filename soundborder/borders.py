"""Where soundness ends: what makes a design unsound, and what is to be given up for it."""

from itertools import combinations

from soundborder.designs import require_design
from soundborder.errors import NotMade

# For each lot, ascending, a program that goes wrong where the lot is held whole.
BREAKERS = {
    ("against",): (
        ((("cell", "big"), "num", (("get", 1, 0, "big"), ("field", 2, 1, "b")), 2),),
        (("small", 0, 1), ("cell", 1, 0), ("call", 2, 0, 1)),
    ),
    ("along", "put"): (
        ((("cell", "small"), "num", (("small", 1, 1), ("put", 0, 1), ("num", 2, 0)), 2),),
        (("big", 0, 1, 2), ("cell", 1, 0), ("call", 2, 0, 1), ("get", 3, 1, "big"), ("field", 4, 3, "b")),
    ),
    ("args",): (
        (("big", "num", (("field", 1, 0, "b"),), 1),),
        (("fun", 0, 0), ("name", 1, 0, ("fun", "small", "num")), ("small", 2, 1), ("use", 3, 1, 2)),
    ),
    ("blank", "put"): (
        (),
        (("blank", 0), ("num", 1, 1), ("put", 0, 1), ("get", 2, 0, "big"), ("field", 3, 2, "b")),
    ),
    ("calls", "keep", "put"): (
        ((("cell", "small"), "num", (("small", 1, 1), ("put", 0, 1), ("num", 2, 0)), 2),),
        (
            ("big", 0, 1, 2), ("name", 1, 0, "small"), ("cell", 2, 1),
            ("test", 2, (("call", 3, 0, 2), ("get", 4, 2, "big"), ("field", 5, 4, "b"))),
        ),
    ),
    ("cast",): (
        (),
        (("small", 0, 1), ("cast", 1, 0), ("field", 2, 1, "b")),
    ),
    ("keep", "put", "share"): (
        (),
        (
            ("big", 0, 1, 2), ("name", 1, 0, "small"), ("cell", 2, 1), ("name", 3, 2, ("cell", "small")),
            ("small", 4, 1), ("test", 2, (("put", 3, 4), ("get", 5, 2, "big"), ("field", 6, 5, "b"))),
        ),
    ),
    ("none",): (
        (),
        (("none", 0, "big"), ("field", 1, 0, "b")),
    ),
}

GREATEST_SOUND = (
    (
        "along", "along checked", "args checked", "blank", "calls",
        "cast checked", "keep", "none checked", "share",
    ),
    ("along checked", "args checked", "calls", "cast checked", "none checked", "put", "share"),
    ("along checked", "args checked", "cast checked", "keep", "none checked", "put"),
)


def lots():
    """The lots of words, one of which each unsound design holds whole."""
    return tuple(sorted(BREAKERS))


def lots_in(design):
    """The lots that the design holds whole."""
    require_design(design)
    return tuple([lot for lot in lots() if _holds(design, lot)])


def is_sound(design):
    """Whether no program that the design lets by goes wrong."""
    return lots_in(design) == ()


def breaker(design):
    """A program that the design lets by and that goes wrong there, or None for a sound design."""
    held = lots_in(design)
    if held == ():
        return None
    return BREAKERS[held[0]]


def greatest_sound(design):
    """The greatest sound designs that hold all words of a sound one."""
    if not is_sound(design):
        raise NotMade("the design is not sound")
    return tuple([greatest for greatest in GREATEST_SOUND if _holds(greatest, design)])


def fewest_drops(design):
    """The least of the tuples of the fewest words without which the design is sound."""
    require_design(design)
    words = list(design)
    for many in range(len(words)):
        # Of ascending words the combinations come in ascending order: the first one is the least.
        for drops in combinations(words, many):
            if is_sound(tuple([word for word in words if word not in drops])):
                return drops
    return design


def _holds(design, words):
    """Whether the design holds each of the words."""
    return all(word in design for word in words)
