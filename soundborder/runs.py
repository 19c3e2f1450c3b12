"""Running programs that are let by."""

from soundborder.checker import lets_by
from soundborder.designs import checks, within
from soundborder.errors import NotMade
from soundborder.programs import function_type, made_name, made_type

MOST_AROUND = 30

# A value is a pair of its kind and what it carries: a number, the tuple of a
# record's numbers, a Cell, the number of a function, or None.
NOTHING = ("nothing", None)
WRONG_KIND = ("wrong", "kind")


class Cell:
    """A cell: the type that it is born at, and its content once it is full."""

    def __init__(self, born):
        self.born = born
        self.full = False
        self.content = NOTHING

    def fill(self, value):
        """Make the value the content."""
        self.full = True
        self.content = value


class Machine:
    """What one run has at every depth; the words are the design's."""

    def __init__(self, words, functions):
        self.words = words
        self.functions = functions
        self.shown = []


class Frame:
    """The types and the values of the names of a body, and how many calls and uses stand around it."""

    def __init__(self, known, held, around):
        self.known = known
        self.held = held
        self.around = around


def run(design, program):
    """How the run of the program ends, the word why, and the numbers shown."""
    if not lets_by(design, program):
        raise NotMade("the program is not let by")
    functions, body = program
    machine = Machine(design, functions)
    end = _run_body(machine, Frame({}, {}, 0), body)
    if end is None:
        end = ("ends", "")
    return end + (tuple(machine.shown),)


def _fits(machine, value, wanted):
    """Whether the value fits the type."""
    kind, load = value
    if kind == "nothing" or wanted == "any":
        return True
    if kind == "number":
        return wanted == "num"
    if kind == "record":
        return wanted == "small" or wanted == "big" and len(load) == 2
    if kind == "cell":
        return within(machine.words, ("cell", load.born), wanted)
    return within(machine.words, function_type(machine.functions[load]), wanted)


def _used(machine, value, kind):
    """The end of the run if the value is not of the kind that is used, or None; and what it carries."""
    if value[0] == "nothing":
        if checks(machine.words, "none"):
            return ("stops", "none"), None
        return ("wrong", "none"), None
    if value[0] != kind:
        return WRONG_KIND, None
    return None, value[1]


# Each of the following does one statement, and returns the end of the run, or
# None if it goes on, and the value of the name that the statement makes.


def _do_num(machine, frame, statement):
    return None, ("number", statement[2])


def _do_record(machine, frame, statement):
    return None, ("record", statement[2:])


def _do_none(machine, frame, statement):
    return None, NOTHING


def _do_name(machine, frame, statement):
    return None, frame.held[statement[2]]


def _do_cell(machine, frame, statement):
    cell = Cell(frame.known[statement[2]])
    cell.fill(frame.held[statement[2]])
    return None, ("cell", cell)


def _do_blank(machine, frame, statement):
    return None, ("cell", Cell("any"))


def _do_get(machine, frame, statement):
    end, cell = _used(machine, frame.held[statement[2]], "cell")
    if end is not None:
        return end, NOTHING
    if not cell.full:
        return ("stops", "empty"), NOTHING
    return None, cell.content


def _do_put(machine, frame, statement):
    end, cell = _used(machine, frame.held[statement[1]], "cell")
    if end is not None:
        return end, NOTHING
    value = frame.held[statement[2]]
    if checks(machine.words, "along") and not _fits(machine, value, cell.born):
        return ("stops", "put"), NOTHING
    cell.fill(value)
    return None, NOTHING


def _do_field(machine, frame, statement):
    end, record = _used(machine, frame.held[statement[2]], "record")
    if end is not None:
        return end, NOTHING
    if statement[3] == "a":
        return None, ("number", record[0])
    if len(record) < 2:
        return WRONG_KIND, NOTHING
    return None, ("number", record[1])


def _do_cast(machine, frame, statement):
    value = frame.held[statement[2]]
    if checks(machine.words, "cast") and not _fits(machine, value, "big"):
        return ("stops", "cast"), NOTHING
    return None, value


def _do_test(machine, frame, statement):
    end, cell = _used(machine, frame.held[statement[1]], "cell")
    if end is not None:
        return end, NOTHING
    kind, load = cell.content
    if kind != "record" or len(load) < 2:
        return None, NOTHING
    # What is made within a test is not known behind it.
    inner = Frame(dict(frame.known), dict(frame.held), frame.around)
    return _run_body(machine, inner, statement[2]), NOTHING


def _do_fun(machine, frame, statement):
    return None, ("function", statement[2])


def _do_call(machine, frame, statement):
    return _run_function(machine, frame, statement[2], frame.held[statement[3]])


def _do_use(machine, frame, statement):
    end, number = _used(machine, frame.held[statement[2]], "function")
    if end is not None:
        return end, NOTHING
    value = frame.held[statement[3]]
    if checks(machine.words, "args") and not _fits(machine, value, machine.functions[number][0]):
        return ("stops", "args"), NOTHING
    return _run_function(machine, frame, number, value)


def _do_show(machine, frame, statement):
    end, number = _used(machine, frame.held[statement[1]], "number")
    if end is None:
        machine.shown.append(number)
    return end, NOTHING


ACTIONS = {
    "num": _do_num,
    "small": _do_record,
    "big": _do_record,
    "none": _do_none,
    "name": _do_name,
    "cell": _do_cell,
    "blank": _do_blank,
    "get": _do_get,
    "put": _do_put,
    "field": _do_field,
    "cast": _do_cast,
    "test": _do_test,
    "fun": _do_fun,
    "call": _do_call,
    "use": _do_use,
    "show": _do_show,
}


def _run_function(machine, frame, number, value):
    """The end of the run, or None, and the value that the function tells for this one."""
    if frame.around >= MOST_AROUND:
        return ("stops", "deep"), NOTHING
    argument, _, body, told = machine.functions[number]
    inner = Frame({0: argument}, {0: value}, frame.around + 1)
    end = _run_body(machine, inner, body)
    if end is not None:
        return end, NOTHING
    return None, inner.held[told]


def _run_body(machine, frame, body):
    """Do the statements in order; the end of the run, or None if it goes on behind them."""
    for statement in body:
        action = ACTIONS[statement[0]]
        end, value = action(machine, frame, statement)
        if end is not None:
            return end
        made = made_name(statement)
        if made is not None:
            frame.known[made] = made_type(statement, frame.known, machine.functions)
            frame.held[made] = value
    return None
