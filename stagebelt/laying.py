"""The beats at which instructions are laid on, told by the waits of a design without running its belt."""

from stagebelt.designs import MOST_APART, last_place_among, places_of_kinds
from stagebelt.laid import Laid, has_to_wait


class Laying:
    """The laying on of one instruction after another, of which none is thrown away."""

    def __init__(self, design):
        self.places = places_of_kinds(design)
        self.waits = {entry: True for entry in design[4]}
        self.latest = []
        self.least_beat = 0
        self.ending = 0

    def lay_on(self, instruction, right):
        """Lay the next instruction on, and tell at which beat; right tells whether its guess is right."""
        beat = self.least_beat
        while has_to_wait(self.waits, self.latest, instruction, beat):
            beat += 1
        item = Laid(instruction, beat)
        # No wait is for more beats, so the next one can wait for no others.
        self.latest = [other for other in self.latest if beat - other.beat < MOST_APART] + [item]
        self.ending = max(self.ending, beat + last_place_among(self.places[item.kind]) + 1)
        self.least_beat = beat + 1 if right else beat + self.places[item.kind]["decided"] + 1
        return beat

    def standing(self):
        """How many beats ahead of the next one all that it can wait for was laid on."""
        return tuple([self.least_beat - item.beat for item in self.latest])


def all_laid(design, trace):
    """The laying on of a whole trace, and the list of its beats; both arguments are checked already."""
    laying = Laying(design)
    beats = [laying.lay_on(instruction, right) for instruction, right in trace]
    return laying, beats
