"""Types and programs as texts, written and read."""

from soundborder.designs import MOST_TUPLES, PLAIN, require_type
from soundborder.errors import InvalidText, NotText
from soundborder.programs import (
    GREATEST, MOST_FUNCTIONS, MOST_IN_TEST, MOST_STATEMENTS, MOST_TESTS, SHAPES, require_program,
)

# For each word of a line that is no statement, what the items behind it are.
FRAMES = {"function": ("type", "type"), "tells": ("name",), "main": (), "end": ()}


class Reader:
    """The lines of a text; done is how many of them have been read."""

    def __init__(self, text):
        self.lines = text.split("\n")
        self.done = 0

    def ahead(self):
        """The word and the items of the line that is to be read; the word "" where none can be read."""
        if self.done == len(self.lines):
            return ("",)
        return _line_items(self.lines[self.done])

    def take(self, word):
        """The items of the line that is to be read, which must have this word."""
        line = self.ahead()
        if line[0] != word:
            raise InvalidText(self.done + 1)
        self.done += 1
        return line[1:]


def write_type(value):
    """The text of a type."""
    require_type(value)
    return _type_text(value)


def _type_text(kind):
    """write_type for what is known to be a type."""
    if kind[0] == "cell":
        return "[" + _type_text(kind[1]) + "]"
    if kind[0] == "fun":
        return "(" + _type_text(kind[1]) + ">" + _type_text(kind[2]) + ")"
    return kind


def write_program(program):
    """The text of a program."""
    require_program(program)
    functions, body = program
    lines = []
    for argument, result, inner, told in functions:
        lines.append(_line("function", (argument, result)))
        lines.extend(_body_lines(inner))
        lines.append(_line("tells", (told,)))
    lines.append("main")
    lines.extend(_body_lines(body))
    return "\n".join(lines)


def _body_lines(body):
    """The lines of a body."""
    lines = []
    for statement in body:
        lines.append(_line(statement[0], statement[1:]))
        if statement[0] == "test":
            lines.extend(_body_lines(statement[2]))
            lines.append("end")
    return lines


def _line(word, items):
    """The line of a word and the items behind it, the body of a test left out."""
    kinds = _kinds(word)
    return " ".join([word] + [_item_text(item, kind) for item, kind in zip(items, kinds)])


def _item_text(item, kind):
    """The text of an item of that kind."""
    if kind == "type":
        return _type_text(item)
    return str(item)


def _kinds(word):
    """What the items of a line behind the word are, or None for no word of a line."""
    if word in FRAMES:
        return FRAMES[word]
    if word in SHAPES:
        # The body of a test stands in lines of its own.
        return tuple([kind for kind in SHAPES[word] if kind != "body"])
    return None


def read_program(text):
    """The program of such a text."""
    if not isinstance(text, str):
        raise NotText("no string")
    reader = Reader(text)
    functions = []
    while reader.ahead()[0] == "function" and len(functions) < MOST_FUNCTIONS:
        functions.append(_read_function(reader))
    reader.take("main")
    body = _read_body(reader, MOST_STATEMENTS, MOST_TESTS)
    if reader.done < len(reader.lines):
        raise InvalidText(reader.done + 1)
    return tuple(functions), body


def _read_function(reader):
    """The function whose first line is to be read."""
    argument, result = reader.take("function")
    body = _read_body(reader, MOST_STATEMENTS, MOST_TESTS)
    told = reader.take("tells")[0]
    return argument, result, body, told


def _read_body(reader, most, tests):
    """The statements that are to be read, as many as may stand there.

    A line behind them that cannot stand there is left to what reads on: it wants
    the line that ends the body, and finds another one.
    """
    body = []
    while len(body) < most and _may_begin(reader.ahead()[0], tests):
        body.append(_read_statement(reader, tests))
    return tuple(body)


def _may_begin(word, tests):
    """Whether a statement may have this word where so many tests may stand within one another."""
    return word in SHAPES and (word != "test" or tests > 0)


def _read_statement(reader, tests):
    """The statement whose first line is to be read."""
    word = reader.ahead()[0]
    statement = (word,) + reader.take(word)
    if word != "test":
        return statement
    body = _read_body(reader, MOST_IN_TEST, tests - 1)
    reader.take("end")
    return statement + (body,)


def _line_items(line):
    """The word and the items of a line; the word "" alone for no line of a program."""
    texts = line.split(" ")
    kinds = _kinds(texts[0])
    if kinds is None or len(kinds) != len(texts) - 1:
        return ("",)
    items = [_read_item(text, kind) for text, kind in zip(texts[1:], kinds)]
    if None in items:
        return ("",)
    return (texts[0],) + tuple(items)


def _read_item(text, kind):
    """The item of that kind that the text tells, or None."""
    if kind == "type":
        return _read_type(text)
    if kind in GREATEST:
        return _read_number(text, GREATEST[kind])
    if text in ("a", "b"):
        return text
    return None


def _read_number(text, greatest):
    """The number from 0 to the greatest that is written so, or None."""
    # int() takes blanks, signs and needless zeros, too.
    for number in range(greatest + 1):
        if text == str(number):
            return number
    return None


def _read_type(text):
    """The type that is written so, or None."""
    kind, rest = _type_ahead(text, MOST_TUPLES)
    if rest != "":
        return None
    return kind


def _type_ahead(text, most):
    """The type of at most so many tuples that a text begins with, and the text behind it; None for no type."""
    for word in PLAIN:
        if text.startswith(word):
            return word, text[len(word):]
    if text.startswith("[") and most > 0:
        return _cell_ahead(text, most - 1)
    if text.startswith("(") and most > 0:
        return _function_ahead(text, most - 1)
    return None, text


def _cell_ahead(text, most):
    """_type_ahead for a text that begins as that of a cell does, the content of at most so many tuples."""
    content, rest = _type_ahead(text[1:], most)
    if content is None or not rest.startswith("]"):
        return None, text
    return ("cell", content), rest[1:]


def _function_ahead(text, most):
    """_type_ahead for a text that begins as that of a function does, its parts of at most so many tuples."""
    argument, rest = _type_ahead(text[1:], most)
    if argument is None or not rest.startswith(">"):
        return None, text
    result, rest = _type_ahead(rest[1:], most)
    if result is None or not rest.startswith(")"):
        return None, text
    return ("fun", argument, result), rest[1:]
