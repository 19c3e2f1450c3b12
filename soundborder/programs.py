"""The form of programs: statements, bodies, functions, and the names and types that they make."""

from soundborder.designs import BLANK, is_type
from soundborder.errors import BadProgram

MOST_FUNCTIONS = 3
MOST_STATEMENTS = 15
MOST_IN_TEST = 8
MOST_TESTS = 2

# For each statement's word, what the items behind it are.
SHAPES = {
    "num": ("name", "number"),
    "small": ("name", "number"),
    "big": ("name", "number", "number"),
    "none": ("name", "type"),
    "name": ("name", "name", "type"),
    "cell": ("name", "name"),
    "blank": ("name",),
    "get": ("name", "name", "type"),
    "put": ("name", "name"),
    "field": ("name", "name", "letter"),
    "cast": ("name", "name"),
    "test": ("name", "body"),
    "fun": ("name", "place"),
    "call": ("name", "place", "name"),
    "use": ("name", "name", "name"),
    "show": ("name",),
}
GREATEST = {"name": 40, "number": 99, "place": 2}
MAKES_NO_NAME = ("put", "test", "show")


def require_program(value):
    """Raise BadProgram for a value that is no program."""
    if not isinstance(value, tuple) or len(value) != 2:
        raise BadProgram(None)
    functions, body = value
    if not isinstance(functions, tuple) or len(functions) > MOST_FUNCTIONS or not _is_body(body):
        raise BadProgram(None)
    for number, function in enumerate(functions):
        if not _is_function(function):
            raise BadProgram(number)


def _is_function(value):
    """Whether the value is a function of a program."""
    if not isinstance(value, tuple) or len(value) != 4:
        return False
    argument, result, body, told = value
    return is_type(argument) and is_type(result) and _is_body(body) and _is_number(told, GREATEST["name"])


def _is_body(value):
    """Whether the value is a body of a function or of a program."""
    return _are_statements(value, MOST_STATEMENTS, MOST_TESTS)


def _are_statements(value, most, tests):
    """Whether the value is a tuple of at most so many statements, tests within one another counted down."""
    if not isinstance(value, tuple) or len(value) > most:
        return False
    return all(_is_statement(item, tests) for item in value)


def _is_statement(value, tests):
    """Whether the value is a statement where at most so many tests may stand within one another."""
    if not isinstance(value, tuple) or len(value) == 0:
        return False
    word = value[0]
    if not isinstance(word, str) or word not in SHAPES:
        return False
    kinds = SHAPES[word]
    if len(value) != len(kinds) + 1:
        return False
    return all([_is_item(item, kind, tests) for item, kind in zip(value[1:], kinds)])


def _is_item(value, kind, tests):
    """Whether the value is an item of that kind of a statement."""
    if kind in GREATEST:
        return _is_number(value, GREATEST[kind])
    if kind == "type":
        return is_type(value)
    if kind == "letter":
        return value in ("a", "b")
    return tests > 0 and _are_statements(value, MOST_IN_TEST, tests - 1)


def _is_number(value, greatest):
    """Whether the value is an integer from 0 to the greatest."""
    return isinstance(value, int) and not isinstance(value, bool) and 0 <= value <= greatest


def made_name(statement):
    """The name that a statement makes, or None."""
    if statement[0] in MAKES_NO_NAME:
        return None
    return statement[1]


def used_names(statement):
    """The names of a statement but the one that it makes."""
    names = [item for item, kind in zip(statement[1:], SHAPES[statement[0]]) if kind == "name"]
    if made_name(statement) is None:
        return names
    return names[1:]


def function_type(function):
    """The type of a function of a program."""
    return ("fun", function[0], function[1])


def made_type(statement, known, functions):
    """The type of the name that a statement makes, from the types of the names that are known."""
    word = statement[0]
    if word in ("none", "name", "get"):
        return statement[-1]
    if word == "cell":
        return ("cell", known[statement[2]])
    if word == "blank":
        return BLANK
    if word == "field":
        return "num"
    if word == "cast":
        return "big"
    if word == "fun":
        return function_type(functions[statement[2]])
    if word == "call":
        return functions[statement[2]][1]
    if word == "use":
        return known[statement[2]][2]
    return word
