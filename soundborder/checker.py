"""Checking programs by a design: the first fault, and the types that are known."""

from soundborder.designs import BLANK, has, is_cell, is_function, require_design, within
from soundborder.errors import NotMade
from soundborder.programs import made_name, made_type, require_program, used_names


class Scope:
    """What is known at one place of a body: the types by name, and the names that are known big.

    The words are the design's.
    """

    def __init__(self, words, earlier, known, big):
        self.words = words
        self.earlier = earlier
        self.known = known
        self.big = big


def fault(design, program):
    """The place of the first fault of the program, or None."""
    require_design(design)
    require_program(program)
    functions, body = program
    for number, function in enumerate(functions):
        place = _function_fault(design, functions[:number], function)
        if place is not None:
            return (number,) + place
    place = _body_fault(Scope(design, functions, {}, ()), body)
    if place is not None:
        return (len(functions),) + place
    return None


def lets_by(design, program):
    """Whether the design lets the program by."""
    return fault(design, program) is None


def types(design, program):
    """The pairs of each name that is known at the end of the program's body and its type."""
    if not lets_by(design, program):
        raise NotMade("the program is not let by")
    functions, body = program
    scope = Scope(design, functions, {}, ())
    _body_fault(scope, body)
    return tuple([(name, scope.known[name]) for name in sorted(scope.known)])


def _function_fault(design, earlier, function):
    """The place within the function of its first fault, or None."""
    argument, result, body, told = function
    scope = Scope(design, earlier, {0: argument}, ())
    if not _may_pass(scope, result):
        return ()
    place = _body_fault(scope, body)
    if place is not None:
        return place
    if told not in scope.known or not within(design, scope.known[told], result):
        return ()
    return None


def _body_fault(scope, body):
    """The place within the body of its first fault, or None; the scope goes on with it."""
    for number, statement in enumerate(body):
        if not _may_stand(scope, statement):
            return (number,)
        if statement[0] == "test":
            place = _test_fault(scope, statement)
            if place is not None:
                return (number,) + place
        _go_on(scope, statement)
    return None


def _test_fault(scope, statement):
    """The place within the body of a test of its first fault, or None."""
    big = scope.big
    if "keep" in scope.words:
        big = big + (statement[1],)
    inner = Scope(scope.words, scope.earlier, dict(scope.known), big)
    place = _body_fault(inner, statement[2])
    scope.big = tuple([name for name in scope.big if name in inner.big])
    return place


def _go_on(scope, statement):
    """Let the scope go behind a statement that may stand."""
    word = statement[0]
    if word == "put":
        scope.big = tuple([name for name in scope.big if name != statement[1]])
    elif word in ("call", "use") and "calls" not in scope.words:
        scope.big = ()
    made = made_name(statement)
    if made is not None:
        scope.known[made] = made_type(statement, scope.known, scope.earlier)


def _may_pass(scope, kind):
    """Whether a value of this type may be handed on: a cell only by "share"."""
    return not is_cell(kind) or "share" in scope.words


def _may_always(scope, statement):
    """A statement that each design permits."""
    return True


def _may_none(scope, statement):
    return has(scope.words, "none")


def _may_name(scope, statement):
    kind = scope.known[statement[2]]
    return _may_pass(scope, kind) and within(scope.words, kind, statement[3])


def _may_cell(scope, statement):
    kind = scope.known[statement[2]]
    return _may_pass(scope, kind) and kind != BLANK


def _may_blank(scope, statement):
    return "blank" in scope.words


def _may_get(scope, statement):
    cell, wanted = statement[2], statement[3]
    kind = scope.known[cell]
    if not is_cell(kind) or not _may_pass(scope, wanted):
        return False
    if kind == BLANK or within(scope.words, kind[1], wanted):
        return True
    return cell in scope.big and within(scope.words, "big", wanted)


def _may_put(scope, statement):
    kind, given = scope.known[statement[1]], scope.known[statement[2]]
    if "put" not in scope.words or not is_cell(kind) or not _may_pass(scope, given):
        return False
    return kind == BLANK or within(scope.words, given, kind[1])


def _may_field(scope, statement):
    kind = scope.known[statement[2]]
    return kind == "big" or kind == "small" and statement[3] == "a"


def _may_cast(scope, statement):
    return has(scope.words, "cast") and scope.known[statement[2]] in ("small", "big")


def _may_test(scope, statement):
    kind = scope.known[statement[1]]
    return is_cell(kind) and kind[1] in ("any", "small", "big")


def _may_fun(scope, statement):
    return statement[2] < len(scope.earlier)


def _may_call(scope, statement):
    if statement[2] >= len(scope.earlier):
        return False
    function = scope.earlier[statement[2]]
    return within(scope.words, scope.known[statement[3]], function[0])


def _may_use(scope, statement):
    kind = scope.known[statement[2]]
    if not is_function(kind) or not _may_pass(scope, kind[2]):
        return False
    return within(scope.words, scope.known[statement[3]], kind[1])


def _may_show(scope, statement):
    return scope.known[statement[1]] == "num"


# Each is asked only when the names that the statement uses are known.
RULES = {
    "num": _may_always,
    "small": _may_always,
    "big": _may_always,
    "none": _may_none,
    "name": _may_name,
    "cell": _may_cell,
    "blank": _may_blank,
    "get": _may_get,
    "put": _may_put,
    "field": _may_field,
    "cast": _may_cast,
    "test": _may_test,
    "fun": _may_fun,
    "call": _may_call,
    "use": _may_use,
    "show": _may_show,
}


def _may_stand(scope, statement):
    """Whether the statement may stand, the body of a test not looked at."""
    made = made_name(statement)
    if made is not None and made in scope.known:
        return False
    if not all(name in scope.known for name in used_names(statement)):
        return False
    rule = RULES[statement[0]]
    return rule(scope, statement)
