"""Types, designs, and when one type lies within another."""

from soundborder.errors import BadDesign, BadType

PLAIN = ("num", "small", "big")
MOST_TUPLES = 3
BLANK = ("cell", "any")
WORDS = (
    "against", "along", "along checked", "args", "args checked", "blank", "calls",
    "cast", "cast checked", "keep", "none", "none checked", "put", "share",
)


def is_type(value):
    """Whether the value is a type."""
    return _is_type_of(value, MOST_TUPLES)


def _is_type_of(value, most):
    """Whether the value is a type of at most so many tuples within one another."""
    if isinstance(value, str):
        return value in PLAIN
    if not isinstance(value, tuple) or most == 0:
        return False
    if len(value) == 2:
        return value[0] == "cell" and _is_type_of(value[1], most - 1)
    if len(value) == 3:
        return value[0] == "fun" and _is_type_of(value[1], most - 1) and _is_type_of(value[2], most - 1)
    return False


def is_design(value):
    """Whether the value is a design."""
    if not isinstance(value, tuple):
        return False
    if not all(word in WORDS for word in value):
        return False
    return all([one < other for one, other in zip(value, value[1:])])


def require_design(value):
    """Raise BadDesign for a value that is no design."""
    if not is_design(value):
        raise BadDesign("no design")


def require_type(value):
    """Raise BadType for a value that is no type."""
    if not is_type(value):
        raise BadType("no type")


def has(design, word):
    """Whether the design holds the word or its checked word."""
    return word in design or word + " checked" in design


def checks(design, word):
    """Whether the design holds the checked word alone."""
    return word not in design and word + " checked" in design


def is_cell(kind):
    """Whether a type, or the type of a blank cell, is that of a cell."""
    return kind[0] == "cell"


def is_function(kind):
    """Whether a type is that of a function."""
    return kind[0] == "fun"


def lies_within(design, one, other):
    """Whether the type one lies within the type other."""
    require_design(design)
    require_type(one)
    require_type(other)
    return within(design, one, other)


def within(design, one, other):
    """lies_within for types of any depth, and for that of a blank cell."""
    forth, _ = _both_ways(design, one, other)
    return forth


def _both_ways(design, one, other):
    """Whether one lies within other, and whether other lies within one.

    The two are found together: each may ask for both of the parts, and asking
    twice at each depth would take too long for the cells that programs build.
    """
    if one == other:
        return True, True
    if one[0] == "cell" and other[0] == "cell":
        return _cells_both_ways(design, one[1], other[1])
    if one[0] == "fun" and other[0] == "fun":
        return _functions_both_ways(design, one, other)
    return (one, other) == ("big", "small"), (one, other) == ("small", "big")


def _cells_both_ways(design, one, other):
    """_both_ways of the cells of two unlike contents."""
    if one == "any" or other == "any":
        return one == "any", other == "any"
    forth, back = _both_ways(design, one, other)
    along = has(design, "along")
    against = "against" in design
    return along and forth or against and back, along and back or against and forth


def _functions_both_ways(design, one, other):
    """_both_ways of two functions."""
    arguments = _both_ways(design, one[1], other[1])
    results = _both_ways(design, one[2], other[2])
    loose = has(design, "args")
    forth = results[0] and (arguments[1] or loose and arguments[0])
    back = results[1] and (arguments[0] or loose and arguments[1])
    return forth, back
