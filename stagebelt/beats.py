"""Traces of runs, and how many beats they take."""

from stagebelt.belts import begun, go_to_end
from stagebelt.designs import JUMPS, check_design
from stagebelt.errors import BadTrace, TooLong
from stagebelt.laying import all_laid
from stagebelt.programs import is_instruction, kind_of

MOST_IN_TRACE = 200


def is_step(value):
    """Whether a value is a pair of an instruction and of whether its guess was right."""
    if not isinstance(value, tuple) or len(value) != 2:
        return False
    instruction, right = value
    if not is_instruction(instruction):
        return False
    # Any other one than a jump has no guess that could be wrong.
    return right is True or (right is False and kind_of(instruction) in JUMPS)


def check_trace(trace):
    """Raise BadTrace for any value that is no trace."""
    if not isinstance(trace, tuple) or len(trace) > MOST_IN_TRACE:
        raise BadTrace(None)
    for index, item in enumerate(trace):
        if not is_step(item):
            raise BadTrace(index)


def trace_of(design, program, state, guesser):
    """The trace of the instructions of a run that were not thrown away."""
    belt = begun(design, program, state, guesser)
    go_to_end(belt)
    trace = tuple([(item.instruction, item.guessed_right) for item in belt.laid if not item.thrown_away])
    if len(trace) > MOST_IN_TRACE:
        raise TooLong(MOST_IN_TRACE)
    return trace


def laid_beats(design, trace):
    """The tuple of the beats at which the instructions of a trace are laid on."""
    check_design(design)
    check_trace(trace)
    _, beats = all_laid(design, trace)
    return tuple(beats)


def beats_of(design, trace):
    """The number of beats of a trace."""
    check_design(design)
    check_trace(trace)
    laying, _ = all_laid(design, trace)
    return laying.ending


def waited(design, trace):
    """The tuple of how many beats each instruction was laid on later than right behind the one ahead."""
    beats = laid_beats(design, trace)
    # The first one is laid on as if another one had been right ahead of it.
    return tuple([beat - ahead - 1 for ahead, beat in zip((-1,) + beats, beats)])
