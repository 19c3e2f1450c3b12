"""Values and programs that several tests share."""

from soundborder.errors import BadDesign

# The words of the document's point 3, which are a design, too.
ALL = (
    "against", "along", "along checked", "args", "args checked", "blank", "calls",
    "cast", "cast checked", "keep", "none", "none checked", "put", "share",
)

# Values of every kind, none of which is a type, a design or a program.
ODD_VALUES = (
    -1, 7, True, False, None, "", "any", "cell", "along", [], [[]], ["num"], ["along"], {}, {"along": True},
    [(), ()], (1,), (None,), (True,), ([],), ({},), ("any",), BadDesign("an object"),
)

# F of the document's point 13.
SETTER = (("cell", "small"), "num", (("small", 1, 1), ("put", 0, 1), ("num", 2, 0)), 2)

# The programs of the document's point 13, by their lots.
BREAKERS = {
    ("against",): (
        ((("cell", "big"), "num", (("get", 1, 0, "big"), ("field", 2, 1, "b")), 2),),
        (("small", 0, 1), ("cell", 1, 0), ("call", 2, 0, 1)),
    ),
    ("along", "put"): (
        (SETTER,),
        (("big", 0, 1, 2), ("cell", 1, 0), ("call", 2, 0, 1), ("get", 3, 1, "big"), ("field", 4, 3, "b")),
    ),
    ("args",): (
        (("big", "num", (("field", 1, 0, "b"),), 1),),
        (("fun", 0, 0), ("name", 1, 0, ("fun", "small", "num")), ("small", 2, 1), ("use", 3, 1, 2)),
    ),
    ("blank", "put"): (
        (),
        (("blank", 0), ("num", 1, 1), ("put", 0, 1), ("get", 2, 0, "big"), ("field", 3, 2, "b")),
    ),
    ("calls", "keep", "put"): (
        (SETTER,),
        (
            ("big", 0, 1, 2), ("name", 1, 0, "small"), ("cell", 2, 1),
            ("test", 2, (("call", 3, 0, 2), ("get", 4, 2, "big"), ("field", 5, 4, "b"))),
        ),
    ),
    ("cast",): ((), (("small", 0, 1), ("cast", 1, 0), ("field", 2, 1, "b"))),
    ("keep", "put", "share"): (
        (),
        (
            ("big", 0, 1, 2), ("name", 1, 0, "small"), ("cell", 2, 1), ("name", 3, 2, ("cell", "small")),
            ("small", 4, 1), ("test", 2, (("put", 3, 4), ("get", 5, 2, "big"), ("field", 6, 5, "b"))),
        ),
    ),
    ("none",): ((), (("none", 0, "big"), ("field", 1, 0, "b"))),
}


def plain(*statements):
    """The program of these statements, without a function."""
    return ((), statements)


def every_design():
    """Each design, the empty one first."""
    designs = [()]
    for word in ALL:
        designs.extend([design + (word,) for design in designs])
    return designs


def without(*words):
    """The design of all words but these."""
    return tuple(word for word in ALL if word not in words)
