"""Runs of programs on the belt of a design."""

from stagebelt.checks import check_number
from stagebelt.designs import check_design
from stagebelt.errors import BadDelays, TooLong
from stagebelt.guessers import are_numbers, check_guesser
from stagebelt.plain import check_state
from stagebelt.programs import check_program
from stagebelt.stages import Belt

MOST_BEATS = 1000
MOST_DELAYS = 20
GREATEST_DELAY = 9


def begun(design, program, state, guesser):
    """A belt ahead of its first beat."""
    check_design(design)
    check_program(program)
    check_state(state)
    check_guesser(guesser)
    return Belt(design, program, state, guesser)


def check_delays(delays):
    """Raise BadDelays for any value that is no tuple of delays."""
    if not are_numbers(delays, MOST_DELAYS, GREATEST_DELAY):
        raise BadDelays("no tuple of 1 to 20 integers from 0 to 9")


def go_to_beat(belt, beat):
    """Let a belt go on until this beat is the next one, or the run ends."""
    while belt.beat < beat and not belt.has_ended():
        belt.go_on()


def go_to_end(belt):
    """Let a belt go on until the run ends, which is ahead of beat 1000."""
    go_to_beat(belt, MOST_BEATS)
    if not belt.has_ended():
        raise TooLong(MOST_BEATS)


def all_delays(delays, many):
    """The sum of so many delays, the tuple being taken again and again."""
    return sum([delays[at % len(delays)] for at in range(many)])


def run(design, program, state, guesser):
    """(state, done, beats): the state at the end, how many instructions and how many beats there were."""
    belt = begun(design, program, state, guesser)
    go_to_end(belt)
    return belt.whole_state(), belt.done_so_far(), belt.beat


def broken(design, program, state, guesser, beat):
    """(state, next, done) of a run in which from a beat on nothing more is laid on."""
    belt = begun(design, program, state, guesser)
    check_number(beat, 0, MOST_BEATS - 1)
    go_to_beat(belt, beat)
    while not belt.is_through():
        belt.work()
    return belt.whole_state(), belt.following, belt.done_so_far()


def delayed(design, program, state, guesser, delays):
    """As run, but each fetch and each put takes so many beats more as the next of the delays tells."""
    belt = begun(design, program, state, guesser)
    check_delays(delays)
    go_to_end(belt)
    # The whole belt stands meanwhile, so what happens on it does not depend on the delays.
    beats = belt.beat + all_delays(delays, belt.memory_uses)
    return belt.whole_state(), belt.done_so_far(), beats


def laid_on(design, program, state, guesser):
    """The tuple of (beat, number, whether it was thrown away) of all that were laid on in a run."""
    belt = begun(design, program, state, guesser)
    go_to_end(belt)
    return tuple([(item.beat, item.number, item.thrown_away) for item in belt.laid])


def on_belt(design, program, state, guesser, beat):
    """The tuple of (place, number) of all on the belt in a beat, the greatest place first."""
    belt = begun(design, program, state, guesser)
    check_number(beat, 0, MOST_BEATS - 1)
    go_to_beat(belt, beat)
    if belt.has_ended():
        return ()
    belt.lay_on_next()
    return tuple([(belt.place(item), item.number) for item in belt.on_it()])
