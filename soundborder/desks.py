"""A desk that keeps a design and a program: it tells of them, and changes the design."""

from soundborder.borders import is_sound
from soundborder.checker import fault, lets_by
from soundborder.designs import WORDS, require_design
from soundborder.errors import InvalidText, NothingToUndo, NotNow, NotText
from soundborder.programs import require_program
from soundborder.runs import run


class Desk:
    """A design, with those that it was before its changes, and a program."""

    def __init__(self, design, program):
        require_design(design)
        require_program(program)
        self._program = program
        self._designs = [design]

    @property
    def design(self):
        """The design as it is now."""
        return self._designs[-1]

    def run(self, line):
        """The answer to a line that asks, and None for one that changes the design."""
        if not isinstance(line, str):
            raise NotText("no string")
        if line in ANSWERS:
            answer = ANSWERS[line]
            return answer(self.design, self._program)
        verb, _, word = line.partition(" ")
        if verb not in ("permit", "forbid") or word not in WORDS:
            raise InvalidText(1)
        self._designs.append(_changed(self.design, verb, word))
        return None

    def undo(self):
        """Take the last change of the design back."""
        if len(self._designs) == 1:
            raise NothingToUndo("nothing was changed")
        self._designs.pop()


def _changed(design, verb, word):
    """The design with the word, or without it."""
    if (word in design) == (verb == "permit"):
        raise NotNow("the design is so already")
    if verb == "permit":
        return tuple(sorted([*design, word]))
    return tuple([other for other in design if other != word])


def _fault_told(design, program):
    """The place of the first fault."""
    place = fault(design, program)
    if place is None:
        return "none"
    return ".".join([str(number) for number in place])


def _end_told(design, program):
    """How the run ends, and why."""
    how, why, _ = _made_run(design, program)
    if why == "":
        return how
    return how + " " + why


def _numbers_told(design, program):
    """The numbers that the run shows."""
    shown = _made_run(design, program)[2]
    return " ".join([str(number) for number in shown])


def _made_run(design, program):
    """The run of the program as it is now."""
    if not lets_by(design, program):
        raise NotNow("the program is not let by")
    return run(design, program)


def _soundness_told(design, program):
    """Whether the design is sound."""
    if is_sound(design):
        return "yes"
    return "no"


ANSWERS = {
    "fault": _fault_told,
    "run": _end_told,
    "shown": _numbers_told,
    "sound": _soundness_told,
}
